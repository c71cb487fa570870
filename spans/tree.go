// Package spans: trees that keep values by the spans in which they lie.
package spans

import (
	"cmp"
	"iter"
)

// Tree keeps values with their spans in the order in which these begin, of equal ones in the
// order of their numbers. Each beginning stands with a number once at most.
type Tree[T, N cmp.Ordered, V any] struct {
	root *node[T, N, V]
}

// node is a value with its span. The heights of its two sides differ by one at most.
type node[T, N cmp.Ordered, V any] struct {
	from, to    T
	number      N
	value       V
	latest      T // of all ends here and below: what ends too early is passed over by it
	height      int
	left, right *node[T, N, V]
}

// Put keeps a value, in the place of one with the same beginning and number.
func (t *Tree[T, N, V]) Put(from T, to T, number N, value V) {
	t.root = t.root.put(&node[T, N, V]{from: from, to: to, number: number, value: value})
}

// Drop lets the value go that begins there and has that number, if there is one.
func (t *Tree[T, N, V]) Drop(from T, number N) {
	t.root = t.root.drop(from, number)
}

// Meeting goes, in order, through the values whose spans have something in common with this one.
func (t *Tree[T, N, V]) Meeting(from T, to T) iter.Seq[V] {
	return func(yield func(V) bool) {
		t.root.meeting(from, to, yield)
	}
}

// compare tells where a beginning with a number lies: below 0 ahead of the node, above 0 behind it.
func (n *node[T, N, V]) compare(from T, number N) int {
	return cmp.Or(cmp.Compare(from, n.from), cmp.Compare(number, n.number))
}

func (n *node[T, N, V]) put(added *node[T, N, V]) *node[T, N, V] {
	if n == nil {
		return added.balanced()
	}
	switch side := n.compare(added.from, added.number); {
	case side < 0:
		n.left = n.left.put(added)
	case side > 0:
		n.right = n.right.put(added)
	default:
		n.to, n.value = added.to, added.value
	}
	return n.balanced()
}

func (n *node[T, N, V]) drop(from T, number N) *node[T, N, V] {
	if n == nil {
		return nil
	}
	switch side := n.compare(from, number); {
	case side < 0:
		n.left = n.left.drop(from, number)
	case side > 0:
		n.right = n.right.drop(from, number)
	default:
		return joined(n.left, n.right)
	}
	return n.balanced()
}

// joined makes one tree of the two sides that a node leaves.
func joined[T, N cmp.Ordered, V any](left *node[T, N, V], right *node[T, N, V]) *node[T, N, V] {
	if right == nil {
		return left
	}
	first, rest := right.takeFirst()
	first.left, first.right = left, rest
	return first.balanced()
}

func (n *node[T, N, V]) takeFirst() (*node[T, N, V], *node[T, N, V]) {
	if n.left == nil {
		return n, n.right
	}
	first, rest := n.left.takeFirst()
	n.left = rest
	return first, n.balanced()
}

// meeting answers false when no more is to be gone through.
func (n *node[T, N, V]) meeting(from T, to T, yield func(V) bool) bool {
	if n == nil || n.latest <= from {
		return true
	}
	if !n.left.meeting(from, to, yield) {
		return false
	}
	if to <= n.from {
		return true
	}
	if from < n.to && !yield(n.value) {
		return false
	}
	return n.right.meeting(from, to, yield)
}

// balanced gives the tree of a node of which one side was changed by one value.
func (n *node[T, N, V]) balanced() *node[T, N, V] {
	switch lean := n.left.tall() - n.right.tall(); {
	case lean > 1:
		if n.left.left.tall() < n.left.right.tall() {
			n.left = n.left.turnedLeft()
		}
		return n.turnedRight()
	case lean < -1:
		if n.right.right.tall() < n.right.left.tall() {
			n.right = n.right.turnedRight()
		}
		return n.turnedLeft()
	}
	n.measure()
	return n
}

func (n *node[T, N, V]) turnedRight() *node[T, N, V] {
	up := n.left
	n.left, up.right = up.right, n
	n.measure()
	up.measure()
	return up
}

func (n *node[T, N, V]) turnedLeft() *node[T, N, V] {
	up := n.right
	n.right, up.left = up.left, n
	n.measure()
	up.measure()
	return up
}

func (n *node[T, N, V]) tall() int {
	if n == nil {
		return 0
	}
	return n.height
}

func (n *node[T, N, V]) measure() {
	n.height = 1 + max(n.left.tall(), n.right.tall())
	n.latest = n.to
	if n.left != nil {
		n.latest = max(n.latest, n.left.latest)
	}
	if n.right != nil {
		n.latest = max(n.latest, n.right.latest)
	}
}
