package desk

import (
	"slices"

	"bookings/api"
)

// entry is what is booked or held of a thing, or somebody who waits for it. No two of its spans begin at one time, but they may overlap.
type entry struct {
	id    int
	kind  int
	of    *thing
	units int
	spans []api.Span // in order of From
	until int        // 0, if it is booked
}

func (e *entry) isBooked() bool {
	return e.kind == api.Booked
}

func (e *entry) isTold(as api.Entry) bool {
	return as.Id == e.id
}

// tell gives the entry as it is told, with a list of its own.
func (e *entry) tell() api.Entry {
	return api.Entry{Id: e.id, Kind: e.kind, Thing: e.of.name, Units: e.units, Spans: slices.Clone(e.spans), Until: e.until}
}
