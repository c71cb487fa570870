// Package levels: how much is taken at each minute of the horizon, known by a tree over the minutes.
package levels

import "bookings/api"

// Tree knows the level at each minute. The empty one is level 0 throughout.
type Tree struct {
	root *node
}

// node is a part of the minutes. A part that no span was added to within has no node,
// so that a tree is as great as what is taken, not as the horizon.
type node struct {
	added         int // on the whole part, beside what its halves have
	most, least   int // of the part's levels, without what was added on the parts around
	first, second *node
}

// Add lifts the level by some units over a span. What was added may be taken back, by as much below 0.
func (t *Tree) Add(span api.Span, units int) {
	t.root = add(t.root, minutes(), span, units)
}

// Most tells the highest level at a minute of a span.
func (t *Tree) Most(span api.Span) int {
	return most(t.root, minutes(), span)
}

// Room tells the first time from which on the level is at most this one for so long, all
// within the span; false, if there is none.
func (t *Tree) Room(span api.Span, long int, level int) (int, bool) {
	above := func(n *node, carried int) bool { return carried+n.top() > level }
	free := func(n *node, carried int) bool { return carried+n.bottom() <= level }
	start := span.From
	for start+long <= span.To {
		busy, found := firstMinute(t.root, minutes(), api.Span{From: start, To: start + long}, 0, above)
		if !found {
			return start, true
		}
		start, found = firstMinute(t.root, minutes(), api.Span{From: busy, To: span.To}, 0, free)
		if !found {
			return 0, false
		}
	}
	return 0, false
}

// minutes are the part that the whole tree stands for.
func minutes() api.Span {
	return api.Span{From: 0, To: api.Horizon}
}

func (n *node) top() int {
	if n == nil {
		return 0
	}
	return n.most
}

func (n *node) bottom() int {
	if n == nil {
		return 0
	}
	return n.least
}

// isFlat tells whether a part has one level throughout.
func (n *node) isFlat() bool {
	return n == nil || n.first == nil && n.second == nil
}

func add(n *node, part api.Span, span api.Span, units int) *node {
	if areApart(part, span) {
		return n
	}
	if n == nil {
		n = &node{}
	}
	if isWithin(part, span) {
		n.added += units
	} else {
		first, second := halves(part)
		n.first = add(n.first, first, span, units)
		n.second = add(n.second, second, span, units)
	}
	return n.settled()
}

// settled gives a node that was changed, with its levels; none, if nothing is left in it.
func (n *node) settled() *node {
	if n.added == 0 && n.isFlat() {
		return nil
	}
	n.most = n.added + max(n.first.top(), n.second.top())
	n.least = n.added + min(n.first.bottom(), n.second.bottom())
	return n
}

// most leans on levels never being below 0: a half that is apart from the span may count as 0.
func most(n *node, part api.Span, span api.Span) int {
	if n == nil || areApart(part, span) {
		return 0
	}
	if isWithin(part, span) {
		return n.most
	}
	first, second := halves(part)
	return n.added + max(most(n.first, first, span), most(n.second, second, span))
}

// firstMinute tells the first minute of a span that is as wanted. The question wanted is asked of
// whole parts, whether some minute there is so; carried is what was added on the parts around.
func firstMinute(n *node, part api.Span, span api.Span, carried int, wanted func(*node, int) bool) (int, bool) {
	if areApart(part, span) || !wanted(n, carried) {
		return 0, false
	}
	if n.isFlat() {
		return max(part.From, span.From), true
	}
	first, second := halves(part)
	if minute, found := firstMinute(n.first, first, span, carried+n.added, wanted); found {
		return minute, true
	}
	return firstMinute(n.second, second, span, carried+n.added, wanted)
}

func halves(part api.Span) (api.Span, api.Span) {
	middle := (part.From + part.To) / 2
	return api.Span{From: part.From, To: middle}, api.Span{From: middle, To: part.To}
}

func areApart(a api.Span, b api.Span) bool {
	return a.To <= b.From || b.To <= a.From
}

func isWithin(part api.Span, span api.Span) bool {
	return span.From <= part.From && part.To <= span.To
}
