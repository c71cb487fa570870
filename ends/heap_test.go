package ends

import (
	"cmp"
	"math/rand"
	"slices"
	"testing"
)

type kept struct{ time, number int }

func inOrder(a, b kept) int {
	return cmp.Or(cmp.Compare(a.time, b.time), cmp.Compare(a.number, b.number))
}

// check tells that no item stands ahead of the one above it, and that the spare room is empty.
func check(t *testing.T, h *Heap[int, int, *kept]) {
	t.Helper()
	for i := 1; i < len(h.items); i++ {
		if h.isAhead(i, (i-1)/2) {
			t.Fatalf("item %d stands ahead of the one above it", i)
		}
	}
	for _, spare := range h.items[len(h.items):cap(h.items)] {
		if spare.value != nil {
			t.Fatalf("%v went, but is kept", *spare.value)
		}
	}
}

// P8: what ends by a time, in the order of time and of numbers, held against a list that is sorted.
func TestHeapAgainstList(t *testing.T) {
	r := rand.New(rand.NewSource(5))
	var heap Heap[int, int, *kept]
	var all []kept
	for number := range 8000 {
		switch {
		case r.Intn(10) < 5-number/500%2*2:
			k := kept{r.Intn(60), number}
			heap.Put(k.time, k.number, &k)
			all = append(all, k)
			slices.SortFunc(all, inOrder)
		case len(all) > 0 && r.Intn(2) == 0:
			i := r.Intn(len(all))
			heap.Drop(all[i].time, all[i].number)
			all = slices.Delete(all, i, i+1)
		default:
			time := r.Intn(70) - 5
			got, found := heap.TakeBy(time)
			if want := len(all) > 0 && all[0].time <= time; found != want {
				t.Fatalf("TakeBy(%d) finds %v, want %v, of %v", time, found, want, all)
			}
			if !found {
				break
			}
			if *got != all[0] {
				t.Fatalf("TakeBy(%d) = %v, want %v", time, *got, all[0])
			}
			all = all[1:]
		}
		if check(t, &heap); len(heap.items) != len(all) {
			t.Fatalf("%d are kept, want %d", len(heap.items), len(all))
		}
		if first, found := heap.First(); found != (len(all) > 0) || found && first != all[0].time || !found && first != 0 {
			t.Fatalf("First() = %d, %v, of %v", first, found, all)
		}
	}
}

func TestDropOfNothing(t *testing.T) {
	var heap Heap[string, int, int]
	heap.Drop("a", 1)
	heap.Put("b", 2, 20)
	heap.Put("b", 1, 10)
	heap.Drop("a", 1)
	heap.Drop("b", 3)
	for _, want := range []int{10, 20} {
		if got, found := heap.TakeBy("b"); got != want || !found {
			t.Errorf("TakeBy = %d, %v, want %d", got, found, want)
		}
	}
	if got, found := heap.TakeBy("z"); got != 0 || found {
		t.Errorf("an empty heap gives %d", got)
	}
}

func TestTakeByTheTime(t *testing.T) {
	var heap Heap[int, int, string]
	heap.Put(10, 1, "ten")
	if _, found := heap.TakeBy(9); found {
		t.Error("P8: it ends ahead of its time")
	}
	if got, found := heap.TakeBy(10); got != "ten" || !found {
		t.Error("P8: it does not end at its time")
	}
}
