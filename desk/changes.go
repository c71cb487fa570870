package desk

import (
	"bookings/api"
	"bookings/lines"
	"bookings/rules"
)

func (d *Desk) book(l lines.Book) api.Reply {
	of, err := d.asked(l.Name, l.Units, l.Span)
	if err != api.OK {
		return refused(err)
	}
	return d.enter(&entry{kind: api.Booked, of: of, units: l.Units, spans: []api.Span{l.Span}})
}

func (d *Desk) hold(l lines.Hold) api.Reply {
	of, err := d.asked(l.Name, l.Units, l.Span)
	if err != api.OK {
		return refused(err)
	}
	until := d.now + l.Minutes
	if until > api.Horizon {
		return refused(api.ErrTime)
	}
	return d.enter(&entry{kind: api.Held, of: of, units: l.Units, spans: []api.Span{l.Span}, until: until})
}

func (d *Desk) series(l lines.Series) api.Reply {
	of, err := d.having(l.Name, l.Units)
	if err != api.OK {
		return refused(err)
	}
	days, err := rules.Days(l.Rule)
	if err != api.OK {
		return refused(err)
	}
	return d.enter(&entry{kind: api.Booked, of: of, units: l.Units, spans: rules.Spans(l.Rule, days)})
}

// enter gives an entry the next number and takes what it asks for, or refuses it.
func (d *Desk) enter(e *entry) api.Reply {
	if d.given >= api.MaxId {
		return refused(api.ErrFull)
	}
	e.id = d.given + 1
	if !e.of.take(e) {
		return refused(api.ErrBusy)
	}
	d.given = e.id
	d.entries[e.id] = e
	if e.kind == api.Held {
		d.ending.Put(e.until, e.id, e)
	}
	return api.Reply{N: e.id}
}

func (d *Desk) confirm(l lines.Confirm) api.Reply {
	held := d.entries[l.Id]
	if held == nil {
		return refused(api.ErrId)
	}
	if held.kind != api.Held {
		return refused(api.ErrState)
	}
	d.ending.Drop(held.until, held.id)
	held.kind, held.until = api.Booked, 0
	return api.Reply{}
}

func (d *Desk) cancel(l lines.Cancel) api.Reply {
	gone := d.entries[l.Id]
	if gone == nil {
		return refused(api.ErrId)
	}
	if gone.kind == api.Held {
		d.ending.Drop(gone.until, gone.id)
	}
	d.leave(gone)
	return api.Reply{}
}

func (d *Desk) tick(l lines.Tick) api.Reply {
	then := d.now + l.Minutes
	if then > api.Horizon {
		return refused(api.ErrTime)
	}
	d.now = then
	return api.Reply{N: then, Ended: d.endBy(then)}
}

// endBy ends what is held till a time or till an earlier one, and tells its numbers in the order of ending.
func (d *Desk) endBy(time int) []int {
	var ended []int
	for {
		e, found := d.ending.TakeBy(time)
		if !found {
			return ended
		}
		d.leave(e)
		ended = append(ended, e.id)
	}
}

// leave lets go what an entry took, and the entry.
func (d *Desk) leave(e *entry) {
	e.of.release(e)
	delete(d.entries, e.id)
}
