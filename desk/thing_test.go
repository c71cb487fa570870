package desk

import (
	"slices"
	"testing"

	"bookings/api"
)

func span(from, to int) api.Span {
	return api.Span{From: from, To: to}
}

func ids(list []api.Entry) []int {
	var out []int
	for _, e := range list {
		out = append(out, e.Id)
	}
	return out
}

func wantIds(t *testing.T, of *thing, within api.Span, want ...int) {
	t.Helper()
	if got := ids(of.list(within)); !slices.Equal(got, want) {
		t.Errorf("P10: list within %v tells %v, want %v", within, got, want)
	}
}

// P10: an entry with several spans is told once, with all of them, where its first span between the times stands.
func TestEntryOfSeveralSpans(t *testing.T) {
	of := &thing{name: "a", units: 3}
	several := &entry{id: 2, of: of, units: 1, spans: []api.Span{span(10, 20), span(30, 40), span(50, 60)}}
	for _, e := range []*entry{{id: 1, of: of, units: 1, spans: []api.Span{span(15, 45)}}, several, {id: 3, of: of, units: 1, spans: []api.Span{span(5, 25)}}} {
		if !of.take(e) {
			t.Fatalf("number %d does not fit", e.id)
		}
	}
	wantIds(t, of, span(0, 100), 3, 2, 1)
	wantIds(t, of, span(20, 100), 3, 1, 2)
	wantIds(t, of, span(25, 30), 1)
	wantIds(t, of, span(45, 100), 2)
	told := of.list(span(45, 100))[0].Spans
	if !slices.Equal(told, several.spans) {
		t.Errorf("P10: spans %v are told as %v", several.spans, told)
	}
	of.release(several)
	wantIds(t, of, span(0, 100), 3, 1)
	if most := of.taken.Most(span(50, 60)); most != 0 {
		t.Errorf("P5: %d are taken of what went", most)
	}
}

// P5: of an entry with several spans at a minute the units are taken so many times; what does not fit takes nothing.
func TestSpansThatOverlap(t *testing.T) {
	of := &thing{name: "a", units: 3}
	overlapping := []api.Span{span(10, 20), span(15, 25)}
	if of.take(&entry{id: 1, of: of, units: 2, spans: overlapping}) {
		t.Error("P5: two times 2 units fit into 3")
	}
	if most := of.taken.Most(span(0, 100)); most != 0 || len(of.list(span(0, 100))) != 0 {
		t.Errorf("P1: what was refused takes %d", most)
	}
	if !of.take(&entry{id: 1, of: of, units: 1, spans: overlapping}) {
		t.Error("P5: two times 1 unit does not fit into 3")
	}
	if most := of.taken.Most(span(15, 20)); most != 2 {
		t.Errorf("P5: %d are taken, want 2", most)
	}
}
