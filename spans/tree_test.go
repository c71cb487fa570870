package spans

import (
	"cmp"
	"math/rand"
	"slices"
	"testing"
)

type kept struct{ from, to, number int }

func inOrder(a, b kept) int {
	return cmp.Or(cmp.Compare(a.from, b.from), cmp.Compare(a.number, b.number))
}

func meeting(all []kept, from, to int) []kept {
	var out []kept
	for _, k := range all {
		if k.from < to && from < k.to {
			out = append(out, k)
		}
	}
	slices.SortFunc(out, inOrder)
	return out
}

// check tells how many values a tree has, and that its sides are level, its heights and latest ends right.
func check[V any](t *testing.T, n *node[int, int, V]) int {
	t.Helper()
	if n == nil {
		return 0
	}
	size := 1 + check(t, n.left) + check(t, n.right)
	if lean := n.left.tall() - n.right.tall(); lean < -1 || lean > 1 {
		t.Fatalf("a node of height %d leans by %d", n.height, lean)
	}
	height, latest := n.height, n.latest
	if n.measure(); n.height != height || n.latest != latest {
		t.Fatalf("a node has height %d and latest end %d, want %d and %d", height, latest, n.height, n.latest)
	}
	return size
}

// P10: the order of a list, and what has a minute between two times, held against a list that is sorted.
func TestTreeAgainstList(t *testing.T) {
	r := rand.New(rand.NewSource(7))
	var tree Tree[int, int, kept]
	var all []kept
	for turn := range 6000 {
		// It grows and shrinks by turns, so that it is emptied now and then.
		if len(all) > 0 && r.Intn(10) < 4+turn/300%2*3 {
			i := r.Intn(len(all))
			tree.Drop(all[i].from, all[i].number)
			all = slices.Delete(all, i, i+1)
		} else {
			from := r.Intn(40)
			k := kept{from, from + 1 + r.Intn(12), r.Intn(200)}
			all = slices.DeleteFunc(all, func(old kept) bool { return inOrder(old, k) == 0 })
			all = append(all, k)
			tree.Put(k.from, k.to, k.number, k)
		}
		tree.Drop(41, 1)
		from := r.Intn(52)
		to := from + 1 + r.Intn(12)
		if got, want := slices.Collect(tree.Meeting(from, to)), meeting(all, from, to); !slices.Equal(got, want) {
			t.Fatalf("Meeting(%d, %d) = %v, want %v", from, to, got, want)
		}
		if n := check(t, tree.root); n != len(all) {
			t.Fatalf("%d nodes keep %d values", n, len(all))
		}
	}
}

func TestMeetingEndsEarly(t *testing.T) {
	var tree Tree[string, int, int]
	for n := range 20 {
		tree.Put("b", "d", n, n)
	}
	var got []int
	for n := range tree.Meeting("a", "c") {
		if n == 12 {
			break
		}
		got = append(got, n)
	}
	if len(got) != 12 || got[0] != 0 || got[11] != 11 {
		t.Errorf("gone through: %v", got)
	}
	for n := range tree.Meeting("d", "e") {
		t.Errorf("%d only touches", n)
	}
	for n := range tree.Meeting("a", "b") {
		t.Errorf("%d only touches", n)
	}
}

// Values that come in order must not make a tree as high as they are many.
func TestBalance(t *testing.T) {
	for _, step := range []int{1, -1} {
		var tree Tree[int, int, int]
		for n := range 1000 {
			tree.Put(n*step, n*step+1, 0, n)
		}
		if tree.root.tall() > 14 {
			t.Errorf("1000 values stand %d high", tree.root.tall())
		}
	}
}
