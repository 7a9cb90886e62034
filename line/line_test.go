package line

import (
	"math"
	"slices"
	"testing"

	"swingbridge/api"
)

// of: a line with all its room, in which these stand.
func of(ids ...int) *Line {
	l := New(api.MaxQueue)
	for _, id := range ids {
		l.Put(id)
	}
	return l
}

// holds: l has just these, by all calls that only look.
func holds(t *testing.T, l *Line, want ...int) {
	t.Helper()
	if got := l.All(); !slices.Equal(got, want) {
		t.Errorf("P3.1: All: %v, not %v", got, want)
	}
	if got := l.Len(); got != len(want) {
		t.Errorf("P3.1: Len: %d, not %d", got, len(want))
	}
	first, ok := l.First()
	if ok != (len(want) > 0) || ok && first != want[0] || !ok && first != 0 {
		t.Errorf("P3.1: First of %v: %d, %v", want, first, ok)
	}
	for _, id := range []int{math.MinInt, -1, 0, 1, 2, 3, math.MaxInt} {
		if got := l.Has(id); got != slices.Contains(want, id) {
			t.Errorf("P3.1: Has(%d) of %v: %v", id, want, got)
		}
	}
}

// P3.1: room for so many, held from 0 to MaxQueue; one more is ErrFull and changes nothing.
func TestRoom(t *testing.T) {
	for _, c := range []struct{ room, want int }{
		{math.MinInt, 0}, {-1, 0}, {0, 0}, {1, 1}, {2, 2}, {63, 63}, {64, 64}, {65, 64}, {math.MaxInt, 64},
	} {
		l := New(c.room)
		var ids []int
		for i := range c.want {
			ids = append(ids, i)
			if e := l.Put(i); e != api.OK {
				t.Fatalf("P3.1: New(%d), Put number %d: %v", c.room, i+1, e)
			}
		}
		for range 2 {
			if e := l.Put(500); e != api.ErrFull {
				t.Errorf("P3.1: New(%d), one more than %d: %v", c.room, c.want, e)
			}
		}
		holds(t, l, ids...)
	}
}

// P3.1: room that is left by one is there for another.
func TestRoomComesBack(t *testing.T) {
	l := New(2)
	l.Put(1)
	l.Put(2)
	l.Take()
	if e := l.Put(3); e != api.OK {
		t.Errorf("P3.1: Put behind a Take: %v", e)
	}
	l.Drop(3)
	if e := l.Put(1); e != api.OK {
		t.Errorf("P3.1: Put behind a Drop: %v", e)
	}
	if e := l.Put(0); e != api.ErrFull {
		t.Errorf("P3.1: Put of one more: %v", e)
	}
	holds(t, l, 2, 1)
}

// P3.1, P3.2: Take tells them as they came, any id, also twice; then ErrNone.
func TestTake(t *testing.T) {
	ids := []int{3, 1, 3, 0, -1, math.MaxInt, math.MinInt, 1}
	l := of(ids...)
	for i, want := range ids {
		holds(t, l, ids[i:]...)
		if got, e := l.Take(); got != want || e != api.OK {
			t.Errorf("P3.2: Take number %d: %d, %v, not %d", i, got, e, want)
		}
	}
	for range 2 {
		if got, e := l.Take(); got != 0 || e != api.ErrNone {
			t.Errorf("P3.1: Take of none: %d, %v", got, e)
		}
	}
	holds(t, l)
	l.Put(2)
	holds(t, l, 2)
}

// P3.1: Drop: the first one that is id goes, the others keep their order.
func TestDrop(t *testing.T) {
	for _, c := range []struct {
		ids  []int
		id   int
		want []int
		ok   bool
	}{
		{nil, 0, nil, false},
		{[]int{1}, 0, []int{1}, false},
		{[]int{1}, 1, nil, true},
		{[]int{1, 2, 3}, 1, []int{2, 3}, true},
		{[]int{1, 2, 3}, 2, []int{1, 3}, true},
		{[]int{1, 2, 3}, 3, []int{1, 2}, true},
		{[]int{1, 2, 3}, 4, []int{1, 2, 3}, false},
		{[]int{2, 1, 3, 1}, 1, []int{2, 3, 1}, true},
		{[]int{0, 0}, 0, []int{0}, true},
	} {
		l := of(c.ids...)
		if ok := l.Drop(c.id); ok != c.ok {
			t.Errorf("P3.1: Drop(%d) of %v: %v", c.id, c.ids, ok)
		}
		holds(t, l, c.want...)
	}
}

// P3.2: whatever is done, it is a row at whose end they come and from whose head they go.
func TestAgainstARow(t *testing.T) {
	l := New(5)
	var row []int
	turn := 1
	for step := range 20000 {
		turn = (turn*1103515245 + 12345) % (1 << 31)
		id := turn >> 8 % 4
		switch turn >> 16 % 3 {
		case 0:
			full := len(row) == 5
			if e := l.Put(id); (e == api.ErrFull) != full {
				t.Fatalf("P3.1: step %d: Put of %v: %v", step, row, e)
			}
			if !full {
				row = append(row, id)
			}
		case 1:
			got, e := l.Take()
			if len(row) == 0 {
				if e != api.ErrNone {
					t.Fatalf("P3.1: step %d: Take of none: %v", step, e)
				}
				break
			}
			if got != row[0] || e != api.OK {
				t.Fatalf("P3.2: step %d: Take of %v: %d, %v", step, row, got, e)
			}
			row = row[1:]
		case 2:
			at := slices.Index(row, id)
			if ok := l.Drop(id); ok != (at >= 0) {
				t.Fatalf("P3.1: step %d: Drop(%d) of %v: %v", step, id, row, ok)
			}
			if at >= 0 {
				row = slices.Delete(slices.Clone(row), at, at+1)
			}
		}
		holds(t, l, row...)
		if t.Failed() {
			t.Fatalf("step %d", step)
		}
	}
}

// DOC.md's rule 3: no answer lies on the line, or on another answer; rule 6: nor one line on another.
func TestAllIsNew(t *testing.T) {
	l, other := of(1, 2, 3), of(3, 2, 1)
	l.Take()
	one := l.All()
	two := l.All()
	clear(two[:cap(two)])
	if !slices.Equal(one, []int{2, 3}) {
		t.Errorf("an answer was touched: %v", one)
	}
	holds(t, l, 2, 3)
	l.Put(4)
	l.Drop(2)
	if !slices.Equal(one, []int{2, 3}) {
		t.Errorf("an answer was changed by later calls: %v", one)
	}
	holds(t, l, 3, 4)
	holds(t, other, 3, 2, 1)
}
