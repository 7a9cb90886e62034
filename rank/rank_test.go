package rank

import (
	"math"
	"slices"
	"testing"

	"swingbridge/api"
)

// pair: an id with its key, as they are put.
type pair struct{ key, id int }

// of: a rank with all its room, in which these were put.
func of(pairs ...pair) *Rank {
	r := New(api.MaxQueue)
	for _, p := range pairs {
		r.Put(p.key, p.id)
	}
	return r
}

// holds: r has just these, by all calls that only look.
func holds(t *testing.T, r *Rank, want ...int) {
	t.Helper()
	if got := r.All(); !slices.Equal(got, want) {
		t.Errorf("P4.1: All: %v, not %v", got, want)
	}
	if got := r.Len(); got != len(want) {
		t.Errorf("P4.1: Len: %d, not %d", got, len(want))
	}
	first, ok := r.First()
	if ok != (len(want) > 0) || ok && first != want[0] || !ok && first != 0 {
		t.Errorf("P4.1: First of %v: %d, %v", want, first, ok)
	}
}

// P4.1: room as of a line: held from 0 to MaxQueue; one more is ErrFull and changes nothing.
func TestRoom(t *testing.T) {
	for _, c := range []struct{ room, want int }{
		{math.MinInt, 0}, {-1, 0}, {0, 0}, {1, 1}, {2, 2}, {63, 63}, {64, 64}, {65, 64}, {math.MaxInt, 64},
	} {
		r := New(c.room)
		var ids []int
		for i := range c.want {
			ids = append(ids, i)
			if e := r.Put(7, i); e != api.OK {
				t.Fatalf("P4.1: New(%d), Put number %d: %v", c.room, i+1, e)
			}
		}
		for _, key := range []int{math.MinInt, 7, math.MaxInt} {
			if e := r.Put(key, 500); e != api.ErrFull {
				t.Errorf("P4.1: New(%d), one more than %d: %v", c.room, c.want, e)
			}
		}
		holds(t, r, ids...)
	}
}

// P4.1: room that is left by one is there for another, who stands behind those of its key.
func TestRoomComesBack(t *testing.T) {
	r := New(2)
	r.Put(1, 10)
	r.Put(1, 11)
	r.Take()
	if e := r.Put(1, 12); e != api.OK {
		t.Errorf("P4.1: Put behind a Take: %v", e)
	}
	holds(t, r, 11, 12)
	r.Drop(11)
	if e := r.Put(0, 13); e != api.OK {
		t.Errorf("P4.1: Put behind a Drop: %v", e)
	}
	if e := r.Put(0, 14); e != api.ErrFull {
		t.Errorf("P4.1: Put of one more: %v", e)
	}
	holds(t, r, 13, 12)
}

// P4.1: Take and First of none.
func TestNone(t *testing.T) {
	r := New(3)
	for range 2 {
		holds(t, r)
		if id, e := r.Take(); id != 0 || e != api.ErrNone {
			t.Errorf("P4.1: Take of none: %d, %v", id, e)
		}
		if r.Drop(0) {
			t.Error("P4.1: Drop of none")
		}
	}
	r.Put(4, 9)
	holds(t, r, 9)
	r.Take()
	holds(t, r)
}

// P4.1, P4.2: by key, whatever the ids; of one key as they were put.
func TestOrder(t *testing.T) {
	for _, c := range []struct {
		put  []pair
		want []int
	}{
		{[]pair{{5, 3}, {2, 1}}, []int{1, 3}},
		{[]pair{{2, 1}, {5, 3}}, []int{1, 3}},
		{[]pair{{1, 9}, {1, 2}, {1, 5}}, []int{9, 2, 5}},
		{[]pair{{0, 1}, {math.MaxInt, 2}, {math.MinInt, 3}, {-1, 4}}, []int{3, 4, 1, 2}},
		{[]pair{{2, 7}, {1, 7}, {2, 8}, {1, 8}}, []int{7, 8, 7, 8}},
		{[]pair{{3, 0}, {3, 0}, {1, 0}}, []int{0, 0, 0}},
	} {
		r := of(c.put...)
		for i := range c.want {
			holds(t, r, c.want[i:]...)
			if id, e := r.Take(); id != c.want[i] || e != api.OK {
				t.Errorf("P4.2: of %v, Take number %d: %d, %v", c.put, i, id, e)
			}
		}
		holds(t, r)
	}
}

// P4.1: Drop: the first one in order goes, not the one that was put first.
func TestDrop(t *testing.T) {
	for _, c := range []struct {
		put  []pair
		id   int
		want []int
		ok   bool
	}{
		{nil, 0, nil, false},
		{[]pair{{1, 5}}, 5, nil, true},
		{[]pair{{1, 5}}, 1, []int{5}, false},
		{[]pair{{9, 5}, {4, 6}, {2, 5}}, 5, []int{6, 5}, true},
		{[]pair{{2, 5}, {4, 6}, {9, 5}}, 5, []int{6, 5}, true},
		{[]pair{{3, 5}, {3, 6}, {3, 5}}, 5, []int{6, 5}, true},
		{[]pair{{1, 1}, {2, 2}, {3, 3}}, 2, []int{1, 3}, true},
		{[]pair{{1, 1}, {2, 2}, {3, 3}}, 3, []int{1, 2}, true},
	} {
		r := of(c.put...)
		if ok := r.Drop(c.id); ok != c.ok {
			t.Errorf("P4.1: Drop(%d) of %v: %v", c.id, c.put, ok)
		}
		holds(t, r, c.want...)
	}
}

// P4.1: one that is dropped from the midst may leave its place to one that belongs higher, or lower.
func TestDropInTheMidst(t *testing.T) {
	keys := []int{0, 10, 1, 11, 12, 2, 3, 13, 14, 15, 16, 4, 5, 6, 7}
	for gone := range keys {
		r := New(api.MaxQueue)
		var want []int
		for id, key := range keys {
			r.Put(key, id)
			if id != gone {
				want = append(want, id)
			}
		}
		slices.SortFunc(want, func(a, b int) int { return keys[a] - keys[b] })
		if !r.Drop(gone) {
			t.Errorf("P4.1: Drop(%d): it was there", gone)
		}
		for i := range want {
			holds(t, r, want[i:]...)
			r.Take()
		}
	}
}

// P4.2: whatever is done, it is a row in which each stands behind all whose key isn't above its own.
func TestAgainstARow(t *testing.T) {
	r := New(20)
	var row []pair
	turn := 1
	next := func(n int) int {
		turn = (turn*1103515245 + 12345) % (1 << 31)
		return turn >> 12 % n
	}
	for step := range 20000 {
		id := next(6)
		switch next(5) {
		case 0, 1, 2:
			key := next(4)
			full := len(row) == 20
			if e := r.Put(key, id); (e == api.ErrFull) != full {
				t.Fatalf("P4.1: step %d: Put of %v: %v", step, row, e)
			}
			if !full {
				at := len(row)
				for at > 0 && row[at-1].key > key {
					at--
				}
				row = slices.Insert(row, at, pair{key, id})
			}
		case 3:
			got, e := r.Take()
			if len(row) == 0 {
				if e != api.ErrNone {
					t.Fatalf("P4.1: step %d: Take of none: %v", step, e)
				}
				break
			}
			if got != row[0].id || e != api.OK {
				t.Fatalf("P4.2: step %d: Take of %v: %d, %v", step, row, got, e)
			}
			row = row[1:]
		case 4:
			at := slices.IndexFunc(row, func(p pair) bool { return p.id == id })
			if ok := r.Drop(id); ok != (at >= 0) {
				t.Fatalf("P4.1: step %d: Drop(%d) of %v: %v", step, id, row, ok)
			}
			if at >= 0 {
				row = slices.Delete(row, at, at+1)
			}
		}
		var want []int
		for _, p := range row {
			want = append(want, p.id)
		}
		holds(t, r, want...)
		if t.Failed() {
			t.Fatalf("step %d", step)
		}
	}
}

// DOC.md's rule 3: no answer lies on the rank, or on another answer; rule 6: nor one rank on another.
func TestAllIsNew(t *testing.T) {
	r, other := of(pair{2, 1}, pair{1, 2}), of(pair{1, 1}, pair{2, 2})
	one := r.All()
	two := r.All()
	clear(two[:cap(two)])
	r.Put(0, 7)
	if !slices.Equal(one, []int{2, 1}) {
		t.Errorf("an answer was touched: %v", one)
	}
	holds(t, r, 7, 2, 1)
	holds(t, other, 1, 2)
}
