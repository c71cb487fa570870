// Package ends: heaps that keep values by the times at which they end.
package ends

import (
	"cmp"
	"slices"
)

// Heap keeps values with what ends first ahead, at one time what has the least number.
// Each time stands with a number once at most.
type Heap[T, N cmp.Ordered, V any] struct {
	items []item[T, N, V]
}

type item[T, N cmp.Ordered, V any] struct {
	time   T
	number N
	value  V
}

// Put keeps a value that ends at a time.
func (h *Heap[T, N, V]) Put(time T, number N, value V) {
	h.items = append(h.items, item[T, N, V]{time: time, number: number, value: value})
	h.rise(len(h.items) - 1)
}

// First tells the time at which the first value ends; false, if there is none.
func (h *Heap[T, N, V]) First() (T, bool) {
	if len(h.items) == 0 {
		var none T
		return none, false
	}
	return h.items[0].time, true
}

// TakeBy takes the first value off, if it ends at that time or ahead of it.
func (h *Heap[T, N, V]) TakeBy(time T) (V, bool) {
	if ends, found := h.First(); !found || time < ends {
		var none V
		return none, false
	}
	first := h.items[0].value
	h.remove(0)
	return first, true
}

// Drop lets the value go that ends at that time and has that number, if there is one.
func (h *Heap[T, N, V]) Drop(time T, number N) {
	place := slices.IndexFunc(h.items, func(i item[T, N, V]) bool {
		return i.compare(time, number) == 0
	})
	if place >= 0 {
		h.remove(place)
	}
}

func (i item[T, N, V]) compare(time T, number N) int {
	return cmp.Or(cmp.Compare(i.time, time), cmp.Compare(i.number, number))
}

func (h *Heap[T, N, V]) remove(place int) {
	last := len(h.items) - 1
	h.items[place] = h.items[last]
	// What went must not stay behind in the spare room.
	h.items[last] = item[T, N, V]{}
	h.items = h.items[:last]
	if place < last {
		// The item that filled the gap comes from elsewhere in the heap, so it may have to go either way.
		h.sink(place)
		h.rise(place)
	}
}

func (h *Heap[T, N, V]) rise(place int) {
	for place > 0 {
		above := (place - 1) / 2
		if !h.isAhead(place, above) {
			return
		}
		h.swap(place, above)
		place = above
	}
}

func (h *Heap[T, N, V]) sink(place int) {
	for {
		first := place
		for below := 2*place + 1; below <= 2*place+2 && below < len(h.items); below++ {
			if h.isAhead(below, first) {
				first = below
			}
		}
		if first == place {
			return
		}
		h.swap(place, first)
		place = first
	}
}

func (h *Heap[T, N, V]) isAhead(a int, b int) bool {
	return h.items[a].compare(h.items[b].time, h.items[b].number) < 0
}

func (h *Heap[T, N, V]) swap(a int, b int) {
	h.items[a], h.items[b] = h.items[b], h.items[a]
}
