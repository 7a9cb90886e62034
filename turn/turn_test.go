package turn

import (
	"math"
	"math/rand"
	"slices"
	"testing"

	"swingbridge/api"
)

const (
	most  = math.MaxInt
	least = math.MinInt
)

// row: each one is ahead of all behind it.
func row() []api.Who {
	return []api.Who{
		{Task: 3, Prio: most, Boost: 1},
		{Task: 4, Prio: 1, Boost: 1},
		{Task: -1, Prio: 0, Boost: 2},
		{Task: 2, Prio: 9, Boost: 5},
		{Task: 1, Prio: 1, Boost: most},
		{Task: 9, Prio: least, Boost: -7},
		{Task: 0, Prio: -1, Boost: 0},
		{Task: least, Prio: 1, Boost: 0},
		{Task: 5, Prio: 1, Boost: least},
		{Task: 6, Prio: 1, Boost: 0},
		{Task: most, Prio: 1, Boost: -1},
		{Task: 7, Prio: 2, Boost: 0},
		{Task: 0, Prio: most, Boost: -2},
	}
}

// tasks: those of l as they stand.
func tasks(l []api.Who) []int {
	var all []int
	for _, w := range l {
		all = append(all, w.Task)
	}
	return all
}

// first: First tells just these.
func first(t *testing.T, l []api.Who, k int, want []int) {
	t.Helper()
	if got := First(l, k); !slices.Equal(got, want) {
		t.Errorf("P22.1: First(%v, %d): %v, not %v", l, k, got, want)
	}
}

// P22.1, P22.2: each one of the row against each one.
func TestAhead(t *testing.T) {
	for at, a := range row() {
		for bt, b := range row() {
			if Ahead(a, b) != (at < bt) {
				t.Errorf("P22.1: Ahead(%v, %v) isn't %v", a, b, at < bt)
			}
		}
	}
}

// P22.1: the example, and what doesn't hang on it.
func TestAheadByHand(t *testing.T) {
	for _, c := range []struct {
		a, b api.Who
		want bool
	}{
		{api.Who{Task: 1, Prio: 9, Boost: 5}, api.Who{Task: 0, Prio: 1}, true},
		{api.Who{Task: 0, Prio: 1}, api.Who{Task: 1, Prio: 9, Boost: 5}, false},
		// Both boosted: the Prio doesn't count.
		{api.Who{Task: 1, Prio: 1, Boost: 5}, api.Who{Task: 0, Prio: 9, Boost: 4}, false},
		{api.Who{Task: 1, Prio: 1, Boost: 4}, api.Who{Task: 0, Prio: 9, Boost: 4}, false},
		{api.Who{Task: 0, Prio: 9, Boost: 4}, api.Who{Task: 1, Prio: 1, Boost: 4}, true},
		// None boosted: what stands in Boost doesn't count.
		{api.Who{Task: 0, Prio: 1, Boost: 0}, api.Who{Task: 1, Prio: 1, Boost: -1}, true},
		{api.Who{Task: 1, Prio: 1, Boost: -1}, api.Who{Task: 0, Prio: 1, Boost: 0}, false},
		{api.Who{Task: 1, Prio: 1, Boost: -1}, api.Who{Task: 0, Prio: 2, Boost: -5}, true},
		// Alike: none is ahead.
		{api.Who{Task: 1, Prio: 2, Boost: -1}, api.Who{Task: 1, Prio: 2}, false},
		{api.Who{Task: 1, Prio: 2, Boost: 3}, api.Who{Task: 1, Prio: 7, Boost: 3}, false},
		{api.Who{}, api.Who{}, false},
	} {
		if Ahead(c.a, c.b) != c.want {
			t.Errorf("P22.1: Ahead(%v, %v) isn't %v", c.a, c.b, c.want)
		}
	}
}

// P22.1: the first k, however they stand.
func TestFirst(t *testing.T) {
	want := tasks(row())
	shuffle := rand.New(rand.NewSource(22))
	for range 300 {
		l := row()
		shuffle.Shuffle(len(l), func(a, b int) { l[a], l[b] = l[b], l[a] })
		for k := range len(l) + 1 {
			first(t, l, k, want[:k])
		}
	}
	reversed := row()
	slices.Reverse(reversed)
	first(t, reversed, 4, want[:4])
}

// P22.1: k is held to 0 at least; more than there are tell all.
func TestHowMany(t *testing.T) {
	l, want := row(), tasks(row())
	for _, k := range []int{0, -1, least} {
		first(t, l, k, nil)
		first(t, nil, k, nil)
	}
	for _, k := range []int{len(l), len(l) + 1, most} {
		first(t, l, k, want)
		first(t, nil, k, nil)
		first(t, []api.Who{}, k, nil)
	}
	first(t, l, 1, []int{3})
}

// P22.1: one that stands in it more than once is told as often.
func TestAlike(t *testing.T) {
	a, b, c := api.Who{Task: 4, Prio: 2}, api.Who{Task: 4, Prio: 2, Boost: -3}, api.Who{Task: 1, Prio: 7, Boost: 1}
	first(t, []api.Who{a, b, c, a, c}, 9, []int{1, 1, 4, 4, 4})
	first(t, []api.Who{b, a, c, c, a}, 3, []int{1, 1, 4})
	first(t, []api.Who{a, a}, 1, []int{4})
}

// DOC.md's rule 3: what is handed in is not changed; what is told is new memory.
func TestNothingIsShared(t *testing.T) {
	spare := api.Who{Task: 77, Prio: 77, Boost: 77}
	l := append(row(), spare, spare)[:len(row())]
	slices.Reverse(l)
	before := slices.Clone(l[:len(l)+2])
	got := First(l, 5)
	other := First(l, 5)
	for at := range got[:cap(got)] {
		got[:cap(got)][at] = -9
	}
	if !slices.Equal(l[:len(l)+2], before) || !slices.Equal(other, tasks(row())[:5]) {
		t.Errorf("what was handed in, or told, was changed: %v, %v", l[:len(l)+2], other)
	}
	first(t, l, 5, other)
}
