package gate

import (
	"math"
	"slices"
	"testing"

	"swingbridge/api"
)

// holds: just these are in and outside, by all calls that only look.
func holds(t *testing.T, g *Gate, in, outside []int) {
	t.Helper()
	if got := g.In(); !slices.Equal(got, in) {
		t.Errorf("P6.1: In: %v, not %v", got, in)
	}
	if got := g.Line(); !slices.Equal(got, outside) {
		t.Errorf("P6.1: Line: %v, not %v", got, outside)
	}
	for _, id := range []int{math.MinInt, -1, 0, 1, 2, 3, 4, 5, 6, math.MaxInt} {
		if got := g.Has(id); got != slices.Contains(in, id) {
			t.Errorf("P6.1: Has(%d) of %v: %v", id, in, got)
		}
	}
}

// asks: Ask(id) tells just that.
func asks(t *testing.T, g *Gate, id int, in bool, want api.Errno) {
	t.Helper()
	if ok, e := g.Ask(id); ok != in || e != want {
		t.Errorf("P6.1: Ask(%d): %v, %v, not %v, %v", id, ok, e, in, want)
	}
}

// leaves: Leave(id) tells just that.
func leaves(t *testing.T, g *Gate, id, next int, ok bool, want api.Errno) {
	t.Helper()
	if n, some, e := g.Leave(id); n != next || some != ok || e != want {
		t.Errorf("P6.1: Leave(%d): %d, %v, %v, not %d, %v, %v", id, n, some, e, next, ok, want)
	}
}

// P6.1: so many are in at most, held from 1 to MaxQueue; MaxQueue wait behind them, and no more.
func TestMost(t *testing.T) {
	for _, c := range []struct{ most, want int }{
		{math.MinInt, 1}, {-1, 1}, {0, 1}, {1, 1}, {2, 2}, {63, 63}, {64, 64}, {65, 64}, {math.MaxInt, 64},
	} {
		g := New(c.most)
		var in, outside []int
		for id := range c.want {
			asks(t, g, id, true, api.OK)
			in = append(in, id)
		}
		for id := range api.MaxQueue {
			asks(t, g, 100+id, false, api.OK)
			outside = append(outside, 100+id)
		}
		for range 2 {
			asks(t, g, 500, false, api.ErrFull)
		}
		// Of two errors the one that is named first.
		asks(t, g, 0, false, api.ErrTwice)
		asks(t, g, 100, false, api.ErrTwice)
		if got := g.In(); !slices.Equal(got, in) {
			t.Errorf("P6.1: New(%d): In %v", c.most, got)
		}
		if got := g.Line(); !slices.Equal(got, outside) {
			t.Errorf("P6.1: New(%d): Line %v", c.most, got)
		}
		leaves(t, g, 0, 100, true, api.OK)
		asks(t, g, 500, false, api.OK)
	}
}

// P6.1: an id is in, or in the line, once; wherever it is, and any id.
func TestTwice(t *testing.T) {
	g := New(2)
	for _, id := range []int{math.MinInt, 0} {
		asks(t, g, id, true, api.OK)
	}
	for _, id := range []int{-1, math.MaxInt} {
		asks(t, g, id, false, api.OK)
	}
	for _, id := range []int{math.MinInt, 0, -1, math.MaxInt} {
		asks(t, g, id, false, api.ErrTwice)
	}
	holds(t, g, []int{math.MinInt, 0}, []int{-1, math.MaxInt})
}

// P6.1: an id is asked for twice also where there is room yet.
func TestTwiceWithRoom(t *testing.T) {
	g := New(3)
	asks(t, g, 1, true, api.OK)
	asks(t, g, 1, false, api.ErrTwice)
	holds(t, g, []int{1}, nil)
	leaves(t, g, 1, 0, false, api.OK)
	asks(t, g, 1, true, api.OK)
}

// P6.1: who isn't in can't leave, who waits neither: nothing is changed.
func TestLeaveOfNone(t *testing.T) {
	g := New(1)
	leaves(t, g, 0, 0, false, api.ErrNone)
	asks(t, g, 1, true, api.OK)
	asks(t, g, 2, false, api.OK)
	leaves(t, g, 0, 0, false, api.ErrNone)
	leaves(t, g, 2, 0, false, api.ErrNone)
	holds(t, g, []int{1}, []int{2})
}

// P6.1, P6.2: who leaves lets the first of the line in, behind those that are in.
func TestLeave(t *testing.T) {
	g := New(3)
	for id := 1; id <= 6; id++ {
		g.Ask(id)
	}
	holds(t, g, []int{1, 2, 3}, []int{4, 5, 6})
	leaves(t, g, 2, 4, true, api.OK)
	holds(t, g, []int{1, 3, 4}, []int{5, 6})
	asks(t, g, 2, false, api.OK)
	holds(t, g, []int{1, 3, 4}, []int{5, 6, 2})
	leaves(t, g, 4, 5, true, api.OK)
	leaves(t, g, 1, 6, true, api.OK)
	leaves(t, g, 6, 2, true, api.OK)
	holds(t, g, []int{3, 5, 2}, nil)
	leaves(t, g, 3, 0, false, api.OK)
	leaves(t, g, 3, 0, false, api.ErrNone)
	holds(t, g, []int{5, 2}, nil)
	asks(t, g, 0, true, api.OK)
	holds(t, g, []int{5, 2, 0}, nil)
}

// P6.1: the next one may be 0: true tells it from none.
func TestNextMayBeZero(t *testing.T) {
	g := New(1)
	g.Ask(1)
	g.Ask(0)
	leaves(t, g, 1, 0, true, api.OK)
	holds(t, g, []int{0}, nil)
	leaves(t, g, 0, 0, false, api.OK)
	holds(t, g, nil, nil)
}

// P6.2: whatever is done, it is a row of which the first so many are in, as they asked.
func TestAgainstRows(t *testing.T) {
	g := New(3)
	var in, outside []int
	turn := 1
	for step := range 20000 {
		turn = (turn*1103515245 + 12345) % (1 << 31)
		id := turn >> 12 % 7
		switch there := slices.Contains(in, id); {
		case turn>>20%2 == 0 && (there || slices.Contains(outside, id)):
			asks(t, g, id, false, api.ErrTwice)
		case turn>>20%2 == 0 && len(in) < 3:
			asks(t, g, id, true, api.OK)
			in = append(in, id)
		case turn>>20%2 == 0:
			asks(t, g, id, false, api.OK)
			outside = append(outside, id)
		case !there:
			leaves(t, g, id, 0, false, api.ErrNone)
		default:
			in = slices.DeleteFunc(in, func(other int) bool { return other == id })
			if len(outside) == 0 {
				leaves(t, g, id, 0, false, api.OK)
				break
			}
			leaves(t, g, id, outside[0], true, api.OK)
			in, outside = append(in, outside[0]), outside[1:]
		}
		holds(t, g, in, outside)
		if t.Failed() {
			t.Fatalf("step %d", step)
		}
	}
}

// DOC.md's rule 1: a gate that New didn't make doesn't panic.
func TestBareGate(t *testing.T) {
	var g Gate
	asks(t, &g, 1, false, api.ErrFull)
	leaves(t, &g, 1, 0, false, api.ErrNone)
	holds(t, &g, nil, nil)
}

// DOC.md's rule 3: no answer lies on the gate, or on another answer; rule 6: nor one gate on another.
func TestAnswersAreNew(t *testing.T) {
	g, other := New(2), New(2)
	for id := 1; id <= 4; id++ {
		g.Ask(id)
		other.Ask(5 - id)
	}
	in, outside := g.In(), g.Line()
	for _, l := range [][]int{g.In(), g.Line()} {
		clear(l[:cap(l)])
	}
	holds(t, g, []int{1, 2}, []int{3, 4})
	g.Leave(1)
	if !slices.Equal(in, []int{1, 2}) || !slices.Equal(outside, []int{3, 4}) {
		t.Errorf("an answer was touched: %v, %v", in, outside)
	}
	holds(t, g, []int{2, 3}, []int{4})
	holds(t, other, []int{4, 3}, []int{2, 1})
}
