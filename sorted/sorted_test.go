package sorted

import (
	"math"
	"slices"
	"testing"

	"swingbridge/api"
)

const (
	most  = math.MaxInt
	least = math.MinInt
)

// row: items of these keys, with their places as IDs.
func row(keys ...int) []api.Item {
	var l []api.Item
	for i, k := range keys {
		l = append(l, api.Item{Key: k, ID: i})
	}
	return l
}

// rows: all lists of so many of these numbers.
func rows(of []int, long int) [][]int {
	if long == 0 {
		return [][]int{nil}
	}
	var all [][]int
	for _, l := range rows(of, long-1) {
		for _, n := range of {
			all = append(all, append(slices.Clone(l), n))
		}
	}
	return all
}

// byKey: l sorted by another hand: again and again the first one of the least Key goes.
func byKey(l []api.Item) []api.Item {
	left := slices.Clone(l)
	var all []api.Item
	for len(left) > 0 {
		first := 0
		for i, x := range left {
			if x.Key < left[first].Key {
				first = i
			}
		}
		all = append(all, left[first])
		left = slices.Delete(left, first, first+1)
	}
	return all
}

// P2.1, P2.3: by Key, of one Key as they stand: all short rows.
func TestSortOfShortRows(t *testing.T) {
	for long := range 7 {
		for _, keys := range rows([]int{least, 0, 1, most}, long) {
			l := row(keys...)
			want := byKey(l)
			if got := Sort(l); !slices.Equal(got, want) {
				t.Fatalf("P2.1: Sort(%v): %v, not %v", l, got, want)
			}
			if got, want := Is(l), slices.Equal(l, want); got != want {
				t.Fatalf("P2.1: Is(%v): %v, not %v", l, got, want)
			}
		}
	}
}

// P2.3: a long row of few keys: those of one key keep their order.
func TestSortOfALongRow(t *testing.T) {
	var l []api.Item
	for i := range 100000 {
		l = append(l, api.Item{Key: i * 7919 % 13, ID: i})
	}
	got := Sort(l)
	if len(got) != len(l) {
		t.Fatalf("P2.1: %d items, not %d", len(got), len(l))
	}
	for i := 1; i < len(got); i++ {
		a, b := got[i-1], got[i]
		if a.Key > b.Key || a.Key == b.Key && a.ID >= b.ID {
			t.Fatalf("P2.3: %v stands ahead of %v", a, b)
		}
	}
}

// P2.1: Is looks at Keys alone, and at each pair of neighbours.
func TestIs(t *testing.T) {
	for _, c := range []struct {
		l    []api.Item
		want bool
	}{
		{nil, true},
		{[]api.Item{}, true},
		{row(5), true},
		{row(5, 5), true},
		{row(4, 5), true},
		{row(5, 4), false},
		{row(1, 2, 3, 2), false},
		{row(3, 2, 3, 4), false},
		{row(least, most), true},
		{row(most, least), false},
		{[]api.Item{{Key: 1, ID: 9}, {Key: 1, ID: 2}}, true},
	} {
		if got := Is(c.l); got != c.want {
			t.Errorf("P2.1: Is(%v): %v, not %v", c.l, got, c.want)
		}
	}
}

// P2.1: Put: behind all whose Key isn't above; of a row that isn't in order, its Sort first.
func TestPut(t *testing.T) {
	for long := range 6 {
		for _, keys := range rows([]int{least, 0, 1, most}, long) {
			for _, key := range []int{least, -1, 0, 1, 2, most} {
				l, x := row(keys...), api.Item{Key: key, ID: 100}
				want := byKey(append(slices.Clone(l), x))
				if got := Put(l, x); !slices.Equal(got, want) {
					t.Fatalf("P2.1: Put(%v, %v): %v, not %v", l, x, got, want)
				}
			}
		}
	}
}

// P2.1: Put by hand: an equal ID, a row that is nil.
func TestPutByHand(t *testing.T) {
	for _, c := range []struct {
		l    []api.Item
		x    api.Item
		want []api.Item
	}{
		{nil, api.Item{Key: 1, ID: 2}, []api.Item{{Key: 1, ID: 2}}},
		{row(1, 1, 2), api.Item{Key: 1, ID: 0}, []api.Item{{Key: 1, ID: 0}, {Key: 1, ID: 1}, {Key: 1, ID: 0}, {Key: 2, ID: 2}}},
		{row(2, 1, 1), api.Item{Key: 1, ID: 7}, []api.Item{{Key: 1, ID: 1}, {Key: 1, ID: 2}, {Key: 1, ID: 7}, {Key: 2, ID: 0}}},
	} {
		if got := Put(c.l, c.x); !slices.Equal(got, c.want) {
			t.Errorf("P2.1: Put(%v, %v): %v, not %v", c.l, c.x, got, c.want)
		}
	}
}

// P2.2: the k greatest, the greatest first; k is held from 0 to all.
func TestTop(t *testing.T) {
	for _, c := range []struct {
		l    []int
		k    int
		want []int
	}{
		{[]int{3, 9, 4}, 2, []int{9, 4}},
		{[]int{3, 9, 4}, 3, []int{9, 4, 3}},
		{[]int{3, 9, 4}, 4, []int{9, 4, 3}},
		{[]int{3, 9, 4}, most, []int{9, 4, 3}},
		{[]int{3, 9, 4}, 1, []int{9}},
		{[]int{3, 9, 4}, 0, nil},
		{[]int{3, 9, 4}, -1, nil},
		{[]int{3, 9, 4}, least, nil},
		{nil, 3, nil},
		{[]int{}, 0, nil},
		{[]int{5, 5, 1, 5}, 3, []int{5, 5, 5}},
		{[]int{least, most, 0}, 2, []int{most, 0}},
		{[]int{-3, -1, -2}, 2, []int{-1, -2}},
	} {
		if got := Top(c.l, c.k); !slices.Equal(got, c.want) {
			t.Errorf("P2.2: Top(%v, %d): %v, not %v", c.l, c.k, got, c.want)
		}
	}
}

// P2.2: the sum of the k greatest goes round as ints do.
func TestSum(t *testing.T) {
	for _, c := range []struct {
		l       []int
		k, want int
	}{
		{[]int{3, 9, 4}, 2, 13},
		{[]int{3, 9, 4}, 9, 16},
		{[]int{3, 9, 4}, 0, 0},
		{[]int{3, 9, 4}, -5, 0},
		{nil, 2, 0},
		{[]int{-1, -9}, 1, -1},
		{[]int{1, most}, 2, least},
		{[]int{least, -1}, 2, most},
		{[]int{most, most}, 2, -2},
	} {
		if got := Sum(c.l, c.k); got != c.want {
			t.Errorf("P2.2: Sum(%v, %d): %d, not %d", c.l, c.k, got, c.want)
		}
	}
}

// DOC.md's rule 3: what is handed in stays as it was, the room behind it too.
func TestListsStayAsTheyWere(t *testing.T) {
	for _, keys := range [][]int{{1, 2, 3, 9, 8}, {3, 2, 1, 9, 8}} {
		all := row(keys...)
		l := all[:3]
		Sort(l)
		Is(l)
		Put(l, api.Item{Key: 2, ID: 50})
		if !slices.Equal(all, row(keys...)) {
			t.Errorf("a row was changed: %v", all)
		}
		numbers := slices.Clone(keys)
		Top(numbers[:3], 2)
		Sum(numbers[:3], 2)
		if !slices.Equal(numbers, keys) {
			t.Errorf("numbers were changed: %v", numbers)
		}
	}
}

// spoil: writes over an answer and all room behind it.
func spoil[T any](l []T) {
	clear(l[:cap(l)])
}

// DOC.md's rule 3: what is answered is new memory.
func TestAnswersAreNew(t *testing.T) {
	for _, keys := range [][]int{{7}, {1, 2, 3}, {3, 2, 1}} {
		l, x := row(keys...), api.Item{Key: 2, ID: 50}
		numbers := slices.Clone(keys)
		sorted, put, top := Sort(l), Put(l, x), Top(numbers, 2)
		spoil(Sort(l))
		spoil(Put(l, x))
		spoil(Top(numbers, 2))
		if !slices.Equal(l, row(keys...)) || !slices.Equal(numbers, keys) {
			t.Errorf("an answer lies on what was handed in: %v, %v", l, numbers)
		}
		if !slices.Equal(sorted, Sort(l)) || !slices.Equal(put, Put(l, x)) || !slices.Equal(top, Top(numbers, 2)) {
			t.Errorf("an answer lies on another one: %v, %v, %v", sorted, put, top)
		}
	}
}
