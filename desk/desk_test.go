package desk

import (
	"testing"

	"bookings/api"
	"bookings/lines"
)

// What went, by whatever line, is kept nowhere any more.
func TestNothingIsKeptOfWhatWent(t *testing.T) {
	d := New()
	for _, text := range []string{
		"thing a 1", "book a 1 0 10", "hold a 1 10 20 5", "hold a 1 20 30 5", "hold a 1 30 40 50",
		"wait a 1 0 15 9", "wait a 1 5 10 50", "wait a 1 0 10 50", "wait a 1 21 22 50", "wait a 1 40 50 3", "wait a 1 9 11 5",
		"confirm 3", "cancel 7", "cancel 1", "tick 20", "cancel 3", "cancel 4", "cancel 6", "cancel 8", "cancel 9",
	} {
		line, err, _ := lines.Read(text)
		if err != api.OK {
			t.Fatalf("%q is no line", text)
		}
		if reply := d.Do(line); reply.Err != api.OK {
			t.Fatalf("%q is refused: %+v", text, reply)
		}
	}
	if len(d.entries) != 0 || len(d.waiting) != 0 {
		t.Errorf("%d entries are kept, and %d who wait", len(d.entries), len(d.waiting))
	}
	for _, spare := range d.waiting[:cap(d.waiting)] {
		if spare != nil {
			t.Errorf("number %d waits no more, but is kept", spare.id)
		}
	}
	if time, found := d.ending.First(); found {
		t.Errorf("something is to end at %d", time)
	}
	if *d.things["a"] != (thing{name: "a", units: 1}) {
		t.Errorf("something is taken of the thing: %+v", *d.things["a"])
	}
}
