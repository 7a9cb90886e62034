package job

import (
	"math"
	"testing"

	"swingbridge/api"
	"swingbridge/tape"
)

// parts of each kind.
func run(n int) api.Part       { return api.Part{Kind: api.Run, Len: n} }
func sleep(n int) api.Part     { return api.Part{Kind: api.Sleep, Len: n} }
func lock(res, n int) api.Part { return api.Part{Kind: api.Lock, Len: n, Res: res} }

// of: a task of these parts.
func of(parts ...api.Part) api.Task { return api.Task{Name: "a", Parts: parts} }

// at: the job is at that part, of that kind and resource, with so many ticks left.
func at(t *testing.T, j *Job, part, kind, res, left int) {
	t.Helper()
	if j.Part() != part || j.Kind() != kind || j.Res() != res || j.Left() != left || j.Over() {
		t.Errorf("P21.1: at part %d, kind %d, resource %d, %d left, over %v, not %d, %d, %d, %d",
			j.Part(), j.Kind(), j.Res(), j.Left(), j.Over(), part, kind, res, left)
	}
}

// over: the job is over, and had so many parts.
func over(t *testing.T, j *Job, parts int) {
	t.Helper()
	for range 3 {
		if j.Part() != parts || j.Kind() != 0 || j.Res() != 0 || j.Left() != 0 || !j.Over() {
			t.Errorf("P21.1: over %v, at part %d, kind %d, resource %d, %d left, not over of %d",
				j.Over(), j.Part(), j.Kind(), j.Res(), j.Left(), parts)
		}
		if j.Tick() {
			t.Errorf("P21.1: a Tick of one that is over was done with a part")
		}
	}
}

// tick: Tick tells that.
func tick(t *testing.T, j *Job, want bool) {
	t.Helper()
	if j.Tick() != want {
		t.Errorf("P21.1: Tick isn't %v at part %d, %d left", want, j.Part(), j.Left())
	}
}

// P21.1: the example.
func TestOneRun(t *testing.T) {
	j := New(of(run(2)), 17, tape.New(nil))
	at(t, j, 0, api.Run, 0, 2)
	tick(t, j, false)
	at(t, j, 0, api.Run, 0, 1)
	tick(t, j, true)
	over(t, j, 1)
	if j.Release() != 17 {
		t.Errorf("P21.1: released at %d", j.Release())
	}
}

// P21.1: part by part, each Picked as it begins.
func TestParts(t *testing.T) {
	tp := tape.New([]byte{1, 7, 0, 58, 60})
	j := New(of(run(3), lock(2, 5), sleep(1), lock(1, 60), run(60), run(4)), 0, tp)
	used := func(want int) {
		t.Helper()
		if tp.Used() != want {
			t.Errorf("P21.1: %d of the tape used, not %d", tp.Used(), want)
		}
	}
	// 1 + 1 % 3
	at(t, j, 0, api.Run, 0, 2)
	used(1)
	tick(t, j, false)
	used(1)
	tick(t, j, true)
	// 1 + 7 % 5
	used(2)
	for left := 3; left > 1; left-- {
		at(t, j, 1, api.Lock, 2, left)
		tick(t, j, false)
	}
	at(t, j, 1, api.Lock, 2, 1)
	tick(t, j, true)
	// There is nothing to choose.
	used(2)
	at(t, j, 2, api.Sleep, 0, 1)
	tick(t, j, true)
	// 1 + 0 % 60
	used(3)
	at(t, j, 3, api.Lock, 1, 1)
	tick(t, j, true)
	// 1 + 58 % 60
	used(4)
	for left := 59; left > 1; left-- {
		at(t, j, 4, api.Run, 0, left)
		tick(t, j, false)
	}
	tick(t, j, true)
	// 1 + 60 % 4
	used(5)
	at(t, j, 5, api.Run, 0, 1)
	tick(t, j, true)
	used(5)
	over(t, j, 6)
	used(5)
}

// P21.1: a part whose tape has no bytes takes as long as it may.
func TestLongestParts(t *testing.T) {
	j := New(of(lock(3, 60), sleep(2)), 0, tape.New(nil))
	for left := 60; left > 0; left-- {
		at(t, j, 0, api.Lock, 3, left)
		tick(t, j, left == 1)
	}
	at(t, j, 1, api.Sleep, 0, 2)
	tick(t, j, false)
	tick(t, j, true)
	over(t, j, 2)
}

// P21.1: jobs of one tape use it in turn.
func TestOneTape(t *testing.T) {
	tp := tape.New([]byte{0, 1, 2, 3})
	a, b := New(of(run(9), run(9)), 3, tp), New(of(lock(1, 9), run(1)), -4, tp)
	at(t, a, 0, api.Run, 0, 1)
	at(t, b, 0, api.Lock, 1, 2)
	tick(t, a, true)
	at(t, a, 1, api.Run, 0, 3)
	at(t, b, 0, api.Lock, 1, 2)
	tick(t, b, false)
	tick(t, b, true)
	at(t, b, 1, api.Run, 0, 1)
	tick(t, b, true)
	over(t, b, 2)
	at(t, a, 1, api.Run, 0, 3)
	if tp.Used() != 3 || a.Release() != 3 || b.Release() != -4 {
		t.Errorf("P21.1: %d used, released at %d, %d", tp.Used(), a.Release(), b.Release())
	}
}

// P21.1: alike, with its own tape from then on; neither touches the other one.
func TestCopy(t *testing.T) {
	tp := tape.New([]byte{4, 2, 0})
	j := New(of(run(9), lock(1, 9), sleep(9)), 8, tp)
	tick(t, j, false)
	other := tp.Copy()
	c := j.Copy(other)
	for range 3 {
		at(t, c, 0, api.Run, 0, 4)
		tick(t, j, false)
	}
	tick(t, j, true)
	at(t, j, 1, api.Lock, 1, 3)
	at(t, c, 0, api.Run, 0, 4)
	if tp.Used() != 2 || other.Used() != 1 || c.Release() != 8 {
		t.Errorf("P21.1: %d, %d used, released at %d", tp.Used(), other.Used(), c.Release())
	}
	for n := range 4 {
		tick(t, c, n == 3)
	}
	at(t, c, 1, api.Lock, 1, 3)
	at(t, j, 1, api.Lock, 1, 3)
	// One of another tape altogether.
	d := c.Copy(tape.New([]byte{7}))
	for n := range 3 {
		tick(t, d, n == 2)
		tick(t, c, n == 2)
	}
	at(t, d, 2, api.Sleep, 0, 8)
	at(t, c, 2, api.Sleep, 0, 1)
	tick(t, c, true)
	over(t, c, 3)
	over(t, c.Copy(tp), 3)
	at(t, d, 2, api.Sleep, 0, 8)
	if tp.Used() != 2 || other.Used() != 3 {
		t.Errorf("P21.1: %d, %d used", tp.Used(), other.Used())
	}
}

// P21.2: none takes longer than it may, nor less than a tick.
func TestNoneTakesLonger(t *testing.T) {
	for b := range 256 {
		for n := 1; n <= api.MaxLen; n++ {
			j := New(of(run(n), lock(0, n), sleep(n)), 0, tape.New([]byte{byte(b), byte(b * 7), byte(255 - b)}))
			for part := range 3 {
				ticks := 1
				for !j.Tick() {
					ticks++
				}
				if ticks > n || j.Part() != part+1 {
					t.Fatalf("P21.2: byte %d: part %d of %d took %d, then it is at %d", b, part, n, ticks, j.Part())
				}
			}
			over(t, j, 3)
		}
	}
}

// P21.1: no parts: over at once. Releases of all kinds.
func TestNoParts(t *testing.T) {
	for _, release := range []int{0, 1, -1, math.MinInt, math.MaxInt} {
		tp := tape.New([]byte{1})
		j := New(of(), release, tp)
		over(t, j, 0)
		if j.Release() != release || tp.Used() != 0 {
			t.Errorf("P21.1: released at %d, %d used", j.Release(), tp.Used())
		}
		over(t, j.Copy(tp), 0)
	}
}

// P21.1: parts that are too short: each call comes back.
func TestPartsThatAreTooShort(t *testing.T) {
	for _, n := range []int{0, -1, math.MinInt + 1} {
		j := New(of(run(n), lock(0, n)), 0, tape.New([]byte{1}))
		at(t, j, 0, api.Run, 0, n)
		tick(t, j, true)
		at(t, j, 1, api.Lock, 0, n)
		tick(t, j, true)
		over(t, j, 2)
	}
}

// DOC.md's rule 3: the parts handed in are neither changed nor kept.
func TestNothingIsShared(t *testing.T) {
	parts := []api.Part{run(2), lock(1, 3), sleep(9)}
	j := New(of(parts[:2]...), 0, tape.New(nil))
	c := j.Copy(tape.New(nil))
	if parts[0] != run(2) || parts[1] != lock(1, 3) || parts[2] != sleep(9) {
		t.Errorf("parts were changed: %v", parts)
	}
	parts[0], parts[1] = sleep(7), sleep(8)
	for _, each := range []*Job{j, c} {
		at(t, each, 0, api.Run, 0, 2)
		tick(t, each, false)
		tick(t, each, true)
		at(t, each, 1, api.Lock, 1, 3)
	}
}
