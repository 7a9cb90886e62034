package clock

import (
	"math"
	"slices"
	"testing"

	"swingbridge/api"
)

// at: a clock that is so far.
func at(now int) *Clock {
	c := New()
	for range now {
		c.Step()
	}
	return c
}

// dues: pairs of a time and an ID.
func dues(pairs ...[2]int) []api.Due {
	var l []api.Due
	for _, p := range pairs {
		l = append(l, api.Due{Time: p[0], ID: p[1]})
	}
	return l
}

// holds: c is at that tick, with just these due, by all calls that only look.
func holds(t *testing.T, c *Clock, now int, want ...api.Due) {
	t.Helper()
	if got := c.Now(); got != now {
		t.Errorf("P5.2: Now: %d, not %d", got, now)
	}
	if got := c.All(); !slices.Equal(got, want) {
		t.Errorf("P5.1: All at %d: %v, not %v", now, got, want)
	}
	if got := c.Len(); got != len(want) {
		t.Errorf("P5.1: Len at %d: %d, not %d", now, got, len(want))
	}
}

// steps: the Step at that tick tells just these.
func steps(t *testing.T, c *Clock, now int, want ...int) {
	t.Helper()
	if got := c.Now(); got != now {
		t.Errorf("P5.2: Now ahead of Step: %d, not %d", got, now)
	}
	if got := c.Step(); !slices.Equal(got, want) {
		t.Errorf("P5.2: Step at %d: %v, not %v", now, got, want)
	}
	if got := c.Now(); got != min(now+1, api.MaxTime) {
		t.Errorf("P5.2: Now behind the Step at %d: %d", now, got)
	}
}

// P5.1, P5.2: a new clock; Steps of nothing.
func TestNew(t *testing.T) {
	c := New()
	holds(t, c, 0)
	if c.Drop(0) {
		t.Error("P5.1: Drop of nothing")
	}
	for now := range 20 {
		steps(t, c, now)
		holds(t, c, now+1)
	}
}

// P5.1: Put: times from Now to MaxTime, any ID; else ErrForm, and nothing is due more.
func TestPutForm(t *testing.T) {
	for _, c := range []struct {
		now, time int
		want      api.Errno
	}{
		{0, 0, api.OK}, {0, -1, api.ErrForm}, {0, math.MinInt, api.ErrForm}, {0, 1, api.OK},
		{0, api.MaxTime, api.OK}, {0, api.MaxTime + 1, api.ErrForm}, {0, math.MaxInt, api.ErrForm},
		{5, 4, api.ErrForm}, {5, 5, api.OK}, {5, 6, api.OK}, {5, 1, api.ErrForm}, {5, 0, api.ErrForm}, {5, -1, api.ErrForm},
	} {
		for _, id := range []int{math.MinInt, 0, math.MaxInt} {
			x, d := at(c.now), api.Due{Time: c.time, ID: id}
			if e := x.Put(d); e != c.want {
				t.Errorf("P5.1: at %d, Put(%v): %v, not %v", c.now, d, e, c.want)
			}
			if c.want == api.OK {
				holds(t, x, c.now, d)
			} else {
				holds(t, x, c.now)
			}
		}
	}
}

// P5.1: MaxQueue are due at most, of one time or of many; ErrForm is named ahead of ErrFull.
func TestPutFull(t *testing.T) {
	for _, apart := range []int{0, 1, 3} {
		c := at(2)
		var want []api.Due
		for i := range api.MaxQueue {
			d := api.Due{Time: 2 + i*apart, ID: i}
			want = append(want, d)
			if e := c.Put(d); e != api.OK {
				t.Fatalf("P5.1: Put number %d: %v", i+1, e)
			}
		}
		for _, time := range []int{2, 3, api.MaxTime} {
			if e := c.Put(api.Due{Time: time}); e != api.ErrFull {
				t.Errorf("P5.1: one more at %d: %v", time, e)
			}
		}
		for _, time := range []int{1, api.MaxTime + 1} {
			if e := c.Put(api.Due{Time: time}); e != api.ErrForm {
				t.Errorf("P5.1: an ill-formed one more at %d: %v", time, e)
			}
		}
		holds(t, c, 2, want...)
		c.Drop(0)
		if e := c.Put(api.Due{Time: 2, ID: 99}); e != api.OK {
			t.Errorf("P5.1: Put behind a Drop: %v", e)
		}
		c.Step()
		if e := c.Put(api.Due{Time: 3, ID: 100}); e != api.OK {
			t.Errorf("P5.1: Put behind a Step that told some: %v", e)
		}
	}
}

// P5.2, P5.3: each at its time; of one time in the order they were put, whatever the IDs.
func TestStep(t *testing.T) {
	c := New()
	for _, d := range dues([2]int{4, 1}, [2]int{0, 9}, [2]int{8, 2}, [2]int{0, 3}, [2]int{4, 0}, [2]int{1, 5}, [2]int{0, 9}, [2]int{8, 1}) {
		c.Put(d)
	}
	holds(t, c, 0, dues([2]int{0, 9}, [2]int{0, 3}, [2]int{0, 9}, [2]int{1, 5}, [2]int{4, 1}, [2]int{4, 0}, [2]int{8, 2}, [2]int{8, 1})...)
	steps(t, c, 0, 9, 3, 9)
	steps(t, c, 1, 5)
	steps(t, c, 2)
	steps(t, c, 3)
	c.Put(api.Due{Time: 4, ID: 7})
	steps(t, c, 4, 1, 0, 7)
	c.Put(api.Due{Time: 5, ID: 6})
	steps(t, c, 5, 6)
	steps(t, c, 6)
	steps(t, c, 7)
	steps(t, c, 8, 2, 1)
	holds(t, c, 9)
}

// P5.1: Drop: the first of All, not the one that was put first; what is dropped is never told.
func TestDrop(t *testing.T) {
	c := New()
	for _, d := range dues([2]int{5, 1}, [2]int{0, 2}, [2]int{1, 1}, [2]int{0, 1}, [2]int{0, 2}, [2]int{1, 1}) {
		c.Put(d)
	}
	for i, want := range [][][2]int{
		{{0, 2}, {0, 2}, {1, 1}, {1, 1}, {5, 1}},
		{{0, 2}, {0, 2}, {1, 1}, {5, 1}},
		{{0, 2}, {0, 2}, {5, 1}},
		{{0, 2}, {0, 2}},
	} {
		if !c.Drop(1) {
			t.Errorf("P5.1: Drop number %d", i)
		}
		holds(t, c, 0, dues(want...)...)
	}
	if c.Drop(1) || c.Drop(0) {
		t.Error("P5.1: Drop of one that isn't there")
	}
	c.Drop(2)
	steps(t, c, 0, 2)
	steps(t, c, 1)
	if c.Drop(2) {
		t.Error("P5.1: Drop of one that went")
	}
}

// P5.1: of two alike the one that was put first goes.
func TestDropKeepsTheOrder(t *testing.T) {
	c := New()
	for _, id := range []int{1, 2, 1} {
		c.Put(api.Due{Time: 3, ID: id})
	}
	c.Drop(1)
	holds(t, c, 0, api.Due{Time: 3, ID: 2}, api.Due{Time: 3, ID: 1})
	c.Step()
	c.Step()
	c.Step()
	steps(t, c, 3, 2, 1)
}

// P5.2: at MaxTime Now stays, and Step still tells what is due then.
func TestTheEnd(t *testing.T) {
	c := New()
	c.Put(api.Due{Time: api.MaxTime, ID: 1})
	c.Put(api.Due{Time: api.MaxTime - 1, ID: 2})
	for now := range api.MaxTime - 1 {
		if got := c.Step(); len(got) > 0 || c.Now() != now+1 {
			t.Fatalf("P5.2: Step at %d: %v", now, got)
		}
	}
	steps(t, c, api.MaxTime-1, 2)
	holds(t, c, api.MaxTime, api.Due{Time: api.MaxTime, ID: 1})
	steps(t, c, api.MaxTime, 1)
	steps(t, c, api.MaxTime)
	if e := c.Put(api.Due{Time: api.MaxTime, ID: 3}); e != api.OK {
		t.Errorf("P5.1: Put at the end: %v", e)
	}
	if e := c.Put(api.Due{Time: api.MaxTime - 1}); e != api.ErrForm {
		t.Errorf("P5.1: Put ahead of the end: %v", e)
	}
	c.Put(api.Due{Time: api.MaxTime, ID: 4})
	c.Drop(3)
	steps(t, c, api.MaxTime, 4)
	holds(t, c, api.MaxTime)
}

// P5.3: whatever is done, it is a row by time of which the head goes.
func TestAgainstARow(t *testing.T) {
	c := New()
	var row []api.Due
	now, turn := 0, 1
	next := func(n int) int {
		turn = (turn*1103515245 + 12345) % (1 << 31)
		return turn >> 12 % n
	}
	for step := range 30000 {
		id := next(5)
		switch next(8) {
		case 0, 1, 2, 3:
			d := api.Due{Time: now + next(12) - 1, ID: id}
			want := api.OK
			switch {
			case d.Time < now:
				want = api.ErrForm
			case len(row) == api.MaxQueue:
				want = api.ErrFull
			default:
				to := len(row)
				for to > 0 && row[to-1].Time > d.Time {
					to--
				}
				row = slices.Insert(row, to, d)
			}
			if e := c.Put(d); e != want {
				t.Fatalf("P5.1: step %d: Put(%v) at %d: %v", step, d, now, e)
			}
		case 4, 5:
			to := slices.IndexFunc(row, func(d api.Due) bool { return d.ID == id })
			if ok := c.Drop(id); ok != (to >= 0) {
				t.Fatalf("P5.1: step %d: Drop(%d) of %v: %v", step, id, row, ok)
			}
			if to >= 0 {
				row = slices.Delete(row, to, to+1)
			}
		default:
			var want []int
			for len(row) > 0 && row[0].Time == now {
				want, row = append(want, row[0].ID), row[1:]
			}
			steps(t, c, now, want...)
			now++
		}
		holds(t, c, now, row...)
		if t.Failed() {
			t.Fatalf("step %d", step)
		}
	}
}

// DOC.md's rule 3: no answer lies on the clock, or on another answer; rule 6: nor one clock on another.
func TestAnswersAreNew(t *testing.T) {
	c, other := New(), New()
	a, b, far := api.Due{Time: 0, ID: 1}, api.Due{Time: 0, ID: 2}, api.Due{Time: 4, ID: 3}
	for _, d := range []api.Due{a, b, far} {
		c.Put(d)
		other.Put(d)
	}
	one := c.All()
	two := c.All()
	clear(two[:cap(two)])
	holds(t, c, 0, a, b, far)
	told := c.Step()
	clear(told[:cap(told)])
	holds(t, c, 1, far)
	holds(t, other, 0, a, b, far)
	if !slices.Equal(one, []api.Due{a, b, far}) {
		t.Errorf("an answer was touched: %v", one)
	}
	steps(t, other, 0, 1, 2)
}
