package desk

import (
	"slices"

	"bookings/api"
	"bookings/lines"
	"bookings/rules"
)

func (d *Desk) book(l lines.Book) api.Reply {
	of, err := d.asked(l.Name, l.Units, l.Span)
	if err != api.OK {
		return refused(err)
	}
	return d.enter(&entry{kind: api.Booked, of: of, units: l.Units, spans: []api.Span{l.Span}})
}

func (d *Desk) hold(l lines.Hold) api.Reply {
	return d.enterFor(api.Held, l.Claim, l.Minutes)
}

func (d *Desk) wait(l lines.Wait) api.Reply {
	return d.enterFor(api.Waiting, l.Claim, l.Minutes)
}

// enterFor enters what stays for some minutes from now: what is held, or somebody who waits.
func (d *Desk) enterFor(kind int, claim lines.Claim, minutes int) api.Reply {
	of, err := d.asked(claim.Name, claim.Units, claim.Span)
	if err != api.OK {
		return refused(err)
	}
	until := d.now + minutes
	if until > api.Horizon {
		return refused(api.ErrTime)
	}
	return d.enter(&entry{kind: kind, of: of, units: claim.Units, spans: []api.Span{claim.Span}, until: until})
}

func (d *Desk) series(l lines.Series) api.Reply {
	of, err := d.having(l.Name, l.Units)
	if err != api.OK {
		return refused(err)
	}
	days, err := rules.Days(l.Rule)
	if err != api.OK {
		return refused(err)
	}
	return d.enter(&entry{kind: api.Booked, of: of, units: l.Units, spans: rules.Spans(l.Rule, days)})
}

// enter gives an entry the next number and takes what it asks for, unless it waits; or refuses it.
func (d *Desk) enter(e *entry) api.Reply {
	if d.given >= api.MaxId || e.kind == api.Waiting && len(d.waiting) >= api.MaxWaiting {
		return refused(api.ErrFull)
	}
	e.id = d.given + 1
	if e.kind == api.Waiting {
		d.waiting = append(d.waiting, e)
	} else if !e.of.take(e) {
		return refused(api.ErrBusy)
	}
	d.given = e.id
	d.entries[e.id] = e
	if e.kind != api.Booked {
		d.ending.Put(e.until, e.id, e)
	}
	return api.Reply{N: e.id}
}

func (d *Desk) confirm(l lines.Confirm) api.Reply {
	held := d.entries[l.Id]
	if held == nil {
		return refused(api.ErrId)
	}
	if held.kind != api.Held {
		return refused(api.ErrState)
	}
	d.settle(held)
	return api.Reply{}
}

func (d *Desk) cancel(l lines.Cancel) api.Reply {
	gone := d.entries[l.Id]
	if gone == nil {
		return refused(api.ErrId)
	}
	if gone.kind != api.Booked {
		d.ending.Drop(gone.until, gone.id)
	}
	d.leave(gone)
	return api.Reply{}
}

func (d *Desk) tick(l lines.Tick) api.Reply {
	then := d.now + l.Minutes
	if then > api.Horizon {
		return refused(api.ErrTime)
	}
	reply := api.Reply{N: then}
	for {
		// Between the times at which something ends nobody can come to fit, so time may go by from one to the next.
		time, found := d.ending.First()
		if !found || time > then {
			break
		}
		reply.Ended = append(reply.Ended, d.endBy(time)...)
		reply.Granted = append(reply.Granted, d.grant()...)
	}
	d.now = then
	return reply
}

// endBy ends what is held or waits till a time or till an earlier one, and tells its numbers in the order of ending.
func (d *Desk) endBy(time int) []int {
	var ended []int
	for {
		e, found := d.ending.TakeBy(time)
		if !found {
			return ended
		}
		d.leave(e)
		ended = append(ended, e.id)
	}
}

// grant books those who wait and fit, and tells their numbers. One look at each is enough: who is
// booked only takes room, so that nobody who was passed over comes to fit.
func (d *Desk) grant() []int {
	var granted []int
	for _, e := range d.waiting {
		if e.of.take(e) {
			d.settle(e)
			granted = append(granted, e.id)
		}
	}
	d.waiting = slices.DeleteFunc(d.waiting, (*entry).isBooked)
	return granted
}

// settle makes a booking of what was held or waited: it does not end any more.
func (d *Desk) settle(e *entry) {
	d.ending.Drop(e.until, e.id)
	e.kind, e.until = api.Booked, 0
}

// leave lets an entry go, with what it took: who waits took nothing.
func (d *Desk) leave(e *entry) {
	delete(d.entries, e.id)
	if e.kind != api.Waiting {
		e.of.release(e)
		return
	}
	d.waiting = slices.DeleteFunc(d.waiting, func(other *entry) bool { return other == e })
}
