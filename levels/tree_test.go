package levels

import (
	"math/rand"
	"slices"
	"testing"

	"bookings/api"
)

func span(from, to int) api.Span {
	return api.Span{From: from, To: to}
}

func nodes(n *node) int {
	if n == nil {
		return 0
	}
	return 1 + nodes(n.first) + nodes(n.second)
}

// window is some minutes that a test counts one by one, all others being level 0.
type window struct {
	from   int
	levels []int
}

func (w *window) add(s api.Span, units int) {
	for m := s.From; m < s.To; m++ {
		w.levels[m-w.from] += units
	}
}

func (w *window) most(s api.Span) int {
	return slices.Max(w.levels[s.From-w.from : s.To-w.from])
}

func (w *window) room(s api.Span, long, level int) (int, bool) {
	for start := s.From; start+long <= s.To; start++ {
		if w.most(span(start, start+long)) <= level {
			return start, true
		}
	}
	return 0, false
}

func (w *window) anySpan(r *rand.Rand) api.Span {
	from := r.Intn(len(w.levels))
	return span(w.from+from, w.from+from+1+r.Intn(len(w.levels)-from))
}

// P10: peak and find, held against counting minute by minute, at both ends of the horizon and around its middle.
func TestTreeAgainstMinutes(t *testing.T) {
	const long = 48
	for _, from := range []int{0, 1, 2024, api.Horizon/2 - 20, api.Horizon - long} {
		r := rand.New(rand.NewSource(int64(from)))
		w, tree := &window{from: from, levels: make([]int, long)}, &Tree{}
		var added []api.Span
		for range 3000 {
			if len(added) > 0 && r.Intn(9) < 4 {
				i := r.Intn(len(added))
				w.add(added[i], -2)
				tree.Add(added[i], -2)
				added = slices.Delete(added, i, i+1)
			} else {
				s := w.anySpan(r)
				w.add(s, 2)
				tree.Add(s, 2)
				added = append(added, s)
			}
			s, minutes, level := w.anySpan(r), 1+r.Intn(9), r.Intn(9)
			if got, want := tree.Most(s), w.most(s); got != want {
				t.Fatalf("Most(%v) = %d, want %d, of %v", s, got, want, added)
			}
			got, found := tree.Room(s, minutes, level)
			want, wantFound := w.room(s, minutes, level)
			if got != want || found != wantFound {
				t.Fatalf("Room(%v, %d, %d) = %d, %v, want %d, %v, of %v", s, minutes, level, got, found, want, wantFound, added)
			}
		}
		for _, s := range added {
			tree.Add(s, -2)
		}
		if tree.root != nil {
			t.Errorf("%d nodes are left of nothing", nodes(tree.root))
		}
	}
}

func TestRoomAtTheEdges(t *testing.T) {
	whole := span(0, api.Horizon)
	var tree Tree
	for _, c := range []struct {
		add         api.Span
		within      api.Span
		long, level int
		start       int
		found       bool
	}{
		{span(0, 0), whole, api.Horizon, 0, 0, true},
		{span(0, 0), span(1, api.Horizon), api.Horizon, 0, 0, false},
		{span(10, 20), whole, 10, 0, 0, true},
		{span(10, 20), whole, 11, 0, 20, true},
		{span(10, 20), whole, 11, 1, 0, true},
		{span(10, 20), whole, api.Horizon - 20, 0, 20, true},
		{span(10, 20), whole, api.Horizon - 19, 0, 0, false},
		{span(10, 20), span(10, 20), 1, 0, 0, false},
		{span(10, 20), span(10, 21), 1, 0, 20, true},
		{span(10, 20), span(9, 20), 1, 0, 9, true},
		{span(10, 20), span(10, 20), 10, 1, 10, true},
		{span(0, api.Horizon-1), whole, 1, 0, api.Horizon - 1, true},
		{span(0, api.Horizon-1), whole, 2, 0, 0, false},
		{span(1, api.Horizon), whole, 1, 0, 0, true},
		{span(1, api.Horizon), span(1, api.Horizon), 1, 0, 0, false},
		{whole, whole, 1, 0, 0, false},
		{whole, whole, api.Horizon, 1, 0, true},
	} {
		tree.Add(c.add, 1)
		if start, found := tree.Room(c.within, c.long, c.level); start != c.start || found != c.found {
			t.Errorf("with %v: Room(%v, %d, %d) = %d, %v, want %d, %v", c.add, c.within, c.long, c.level, start, found, c.start, c.found)
		}
		tree.Add(c.add, -1)
	}
}

// The section Ways: the tree is changed span by span, never minute by minute.
func TestFewNodes(t *testing.T) {
	for _, s := range []api.Span{span(0, api.Horizon), span(1, api.Horizon-1), span(0, 1), span(api.Horizon-1, api.Horizon), span(524159, 524161), span(1000, 900000)} {
		var tree Tree
		tree.Add(s, 3)
		if n := nodes(tree.root); n > 90 {
			t.Errorf("%v makes %d nodes", s, n)
		}
		if got := tree.Most(s); got != 3 {
			t.Errorf("Most(%v) = %d, want 3", s, got)
		}
		tree.Add(s, -3)
		if tree.root != nil {
			t.Errorf("%v leaves %d nodes", s, nodes(tree.root))
		}
	}
}
