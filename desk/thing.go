package desk

import (
	"slices"

	"bookings/api"
	"bookings/levels"
	"bookings/spans"
)

// thing is a thing, with all that is booked and held of it: as levels, for how much is taken, and as
// spans, for what takes it.
type thing struct {
	name  string
	units int
	taken levels.Tree
	spans spans.Tree[int, int, *entry]
}

// take takes what an entry asks for, or nothing, if it does not fit.
func (t *thing) take(e *entry) bool {
	// An entry's spans may overlap each other, so whether they fit shows only with all of them added.
	t.add(e.spans, e.units)
	if !t.holds(e.spans) {
		t.add(e.spans, -e.units)
		return false
	}
	for _, span := range e.spans {
		t.spans.Put(span.From, span.To, e.id, e)
	}
	return true
}

// release gives back what an entry took.
func (t *thing) release(e *entry) {
	t.add(e.spans, -e.units)
	for _, span := range e.spans {
		t.spans.Drop(span.From, e.id)
	}
}

func (t *thing) add(list []api.Span, units int) {
	for _, span := range list {
		t.taken.Add(span, units)
	}
}

// holds tells whether the thing has the units that are taken over some spans.
func (t *thing) holds(list []api.Span) bool {
	for _, span := range list {
		if t.taken.Most(span) > t.units {
			return false
		}
	}
	return true
}

// list tells the entries that have a span with a minute of this one.
func (t *thing) list(within api.Span) []api.Entry {
	var told []api.Entry
	for e := range t.spans.Meeting(within.From, within.To) {
		// Of an entry with several such spans the first alone says where it stands.
		if !slices.ContainsFunc(told, e.isTold) {
			told = append(told, e.tell())
		}
	}
	return told
}
