// Package desk: what a desk keeps, and what each line does to it.
package desk

import (
	"strings"

	"bookings/api"
	"bookings/ends"
	"bookings/lines"
	"bookings/rules"
)

// Desk is some things with what is booked and held of them and who waits for them, at a time.
type Desk struct {
	now     int
	given   int // how many numbers were given away: the last one
	things  map[string]*thing
	entries map[int]*entry
	waiting []*entry                    // of the entries those that wait, in the order in which they came
	ending  ends.Heap[int, int, *entry] // of the entries those that are held or wait
}

// New gives a desk without things, at the time 0.
func New() *Desk {
	return &Desk{things: map[string]*thing{}, entries: map[int]*entry{}}
}

// Do does what a line says and then looks at those who wait, or answers an error and changes nothing.
func (d *Desk) Do(line lines.Line) api.Reply {
	reply := d.answer(line)
	if reply.Err == api.OK {
		reply.Granted = append(reply.Granted, d.grant()...)
	}
	return reply
}

func (d *Desk) answer(line lines.Line) api.Reply {
	switch l := line.(type) {
	case lines.Thing:
		return d.thing(l)
	case lines.Book:
		return d.book(l)
	case lines.Hold:
		return d.hold(l)
	case lines.Wait:
		return d.wait(l)
	case lines.Series:
		return d.series(l)
	case lines.Confirm:
		return d.confirm(l)
	case lines.Cancel:
		return d.cancel(l)
	case lines.List:
		return d.list(l)
	case lines.Waiting:
		return api.Reply{Entries: d.tellWaiting()}
	case lines.Peak:
		return d.peak(l)
	case lines.Find:
		return d.find(l)
	case lines.Expand:
		return expand(l)
	case lines.Tick:
		return d.tick(l)
	case lines.Clock:
		return api.Reply{N: d.now}
	}
	// Of no other kind is a line that was read.
	return api.Reply{}
}

func (d *Desk) thing(l lines.Thing) api.Reply {
	if d.things[l.Name] != nil {
		return refused(api.ErrTwice)
	}
	if len(d.things) >= api.MaxThings {
		return refused(api.ErrFull)
	}
	// The name is a piece of the text that was read, and that is not to be kept.
	name := strings.Clone(l.Name)
	d.things[name] = &thing{name: name, units: l.Units}
	return api.Reply{}
}

func (d *Desk) list(l lines.List) api.Reply {
	span := l.Span
	if !l.Within {
		span = api.Span{From: 0, To: api.Horizon}
	}
	of, err := d.asked(l.Name, 0, span)
	if err != api.OK {
		return refused(err)
	}
	return api.Reply{Entries: of.list(span)}
}

func (d *Desk) tellWaiting() []api.Entry {
	var told []api.Entry
	for _, e := range d.waiting {
		told = append(told, e.tell())
	}
	return told
}

func (d *Desk) peak(l lines.Peak) api.Reply {
	of, err := d.asked(l.Name, 0, l.Span)
	if err != api.OK {
		return refused(err)
	}
	return api.Reply{N: of.taken.Most(l.Span)}
}

func (d *Desk) find(l lines.Find) api.Reply {
	of, err := d.asked(l.Name, l.Units, l.Span)
	if err != api.OK {
		return refused(err)
	}
	start, found := of.taken.Room(l.Span, l.Minutes, of.units-l.Units)
	if !found {
		return api.Reply{N: -1}
	}
	return api.Reply{N: start}
}

func expand(l lines.Expand) api.Reply {
	days, err := rules.Days(l.Rule)
	if err != api.OK {
		return refused(err)
	}
	return api.Reply{N: len(days), Days: days}
}

// asked gives the thing of which a line asks for so many units over a span (0, if it names none),
// or the error that comes first.
func (d *Desk) asked(name string, units int, span api.Span) (*thing, api.Errno) {
	of, err := d.having(name, units)
	if err != api.OK {
		return nil, err
	}
	if span.From >= span.To {
		return nil, api.ErrTime
	}
	return of, api.OK
}

// having gives the thing of that name, if it has so many units.
func (d *Desk) having(name string, units int) (*thing, api.Errno) {
	of := d.things[name]
	switch {
	case of == nil:
		return nil, api.ErrName
	case units > of.units:
		return nil, api.ErrUnits
	}
	return of, api.OK
}

func refused(err api.Errno) api.Reply {
	return api.Reply{Err: err}
}
