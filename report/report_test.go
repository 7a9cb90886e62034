package report

import (
	"math"
	"slices"
	"strconv"
	"testing"

	"swingbridge/admit"
	"swingbridge/api"
	"swingbridge/canon"
	"swingbridge/task"
)

// parts of each kind.
func run(n int) api.Part       { return api.Part{Kind: api.Run, Len: n} }
func sleep(n int) api.Part     { return api.Part{Kind: api.Sleep, Len: n} }
func lock(res, n int) api.Part { return api.Part{Kind: api.Lock, Len: n, Res: res} }

// of: a task of that name and Prio, each so many ticks, to be done within so many, with these parts.
func of(name string, prio, period, deadline int, parts ...api.Part) api.Task {
	return api.Task{Name: name, Period: period, Deadline: deadline, Prio: prio, Parts: parts}
}

// set: one core, and two resources of it.
func set(protocol int, tasks ...api.Task) api.Set {
	return api.Set{Protocol: protocol, Cores: []int{1}, Homes: []int{0, 0}, Tasks: tasks}
}

// three: not in order of their Prio; the locks are 3 and 1, 4, none.
func three(protocol int) api.Set {
	return set(protocol,
		of("low", 20, 99, 98, lock(0, 3), run(1), lock(1, 1)),
		of("high7", 3, 90, 80, run(2), lock(0, 4), sleep(2)),
		of("mid", 11, 1000, 500, run(1), sleep(3)),
	)
}

// tells: Lines tells just these.
func tells(t *testing.T, s api.Set, want ...string) {
	t.Helper()
	if l, e := Lines(s); e != api.OK || !slices.Equal(l, want) {
		t.Errorf("P19.1: protocol %d: %q, %d, not %q", s.Protocol, l, e, want)
	}
}

// P19.1: the example.
func TestOne(t *testing.T) {
	for _, protocol := range []int{api.Fair, api.Agent, api.Token} {
		tells(t, set(protocol, of("a", 1, 3, 3, run(3))), "admitted", "a 3 3")
		tells(t, set(protocol, of("a", 1000, 3000, 3000, run(60))), "admitted", "a 60 3000")
		tells(t, set(protocol, of("zzzzzzz9", 1, 40, 39, lock(1, 3), sleep(4), run(1), lock(0, 2), lock(0, 2))), "admitted", "zzzzzzz9 12 39 3 2 2")
	}
}

// P19.1: by Prio, with the waits of the Locks alone, by hand.
func TestThree(t *testing.T) {
	// Each Lock waits for the other task's longest one. Next of low: 1, 7 and 5, and 6 and 1 of others.
	tells(t, three(api.Fair), "admitted", "high7 15 80 7", "mid 14 500", "low 20 98 7 5")
	// high7: 2, 2, a wait of 4 and 3, and 4 of low; the locks of low wait for 4 each.
	tells(t, three(api.Agent), "admitted", "high7 15 80 7", "mid 14 500", "low 20 98 7 5")
	// One is in; one round of 4 each.
	tells(t, three(api.Token), "admitted", "high7 16 80 8", "mid 14 500", "low 20 98 7 5")
}

// P19.1, P19.2: each line is what admit tells, however the tasks stand.
func TestLinesAreTheVerdict(t *testing.T) {
	for _, protocol := range []int{api.Fair, api.Agent, api.Token} {
		v, e := admit.Analyze(three(protocol))
		if e != api.OK {
			t.Fatalf("P19.2: %d", e)
		}
		num := strconv.Itoa
		want := []string{
			"admitted",
			"high7 " + num(v.Bounds[1]) + " 80 " + num(v.Waits[1][1]),
			"mid " + num(v.Bounds[2]) + " 500",
			"low " + num(v.Bounds[0]) + " 98 " + num(v.Waits[0][0]) + " " + num(v.Waits[0][2]),
		}
		for by := range 3 {
			tells(t, canon.Move(three(protocol), by), want...)
		}
		s := three(protocol)
		s.Tasks[0], s.Tasks[1] = s.Tasks[1], s.Tasks[0]
		for by := range 3 {
			tells(t, canon.Move(s, by), want...)
		}
	}
}

// P19.1: six tasks, in each order of two of them.
func TestOrder(t *testing.T) {
	s := set(api.Fair)
	s.Cores = []int{3}
	want := []string{"admitted"}
	for at := range 6 {
		s.Tasks = append(s.Tasks, of("t"+strconv.Itoa(at), 10+at, 100, 100, run(1)))
	}
	v, _ := admit.Analyze(s)
	for at := range 6 {
		want = append(want, "t"+strconv.Itoa(at)+" "+strconv.Itoa(v.Bounds[at])+" 100")
	}
	for a := range 6 {
		for b := range 6 {
			c := task.Copy(s)
			c.Tasks[a], c.Tasks[b] = c.Tasks[b], c.Tasks[a]
			tells(t, c, want...)
		}
	}
}

// P19.1: one line of a set that isn't admitted.
func TestNotAdmitted(t *testing.T) {
	for _, protocol := range []int{api.Fair, api.Agent, api.Token} {
		tells(t, set(protocol, of("a", 1, 3, 2, run(3))), "late")
		tells(t, set(protocol, of("a", 1, 1, 1, run(1)), of("b", 2, 3000, 3000, run(1))), "unknown")
	}
}

// P19.1: task's Check's error.
func TestErrors(t *testing.T) {
	for _, c := range []struct {
		change func(*api.Set)
		want   api.Errno
	}{
		{func(s *api.Set) { s.Protocol = 0 }, api.ErrForm},
		{func(s *api.Set) { s.Cores[0] = 4 }, api.ErrPlace},
		{func(s *api.Set) { s.Tasks = append(s.Tasks, s.Tasks[0], s.Tasks[0], s.Tasks[0], s.Tasks[0]) }, api.ErrLarge},
		{func(s *api.Set) { s.Tasks = nil }, api.ErrTask},
		{func(s *api.Set) { s.Tasks[2].Name = "" }, api.ErrForm},
		{func(s *api.Set) { s.Tasks[2].Name = "low" }, api.ErrTwice},
		{func(s *api.Set) { s.Tasks[2].Parts[0].Len = 61 }, api.ErrPart},
	} {
		s := three(api.Fair)
		c.change(&s)
		if l, e := Lines(s); len(l) != 0 || e != c.want {
			t.Errorf("P19.1: %v: %q, %d, not %d", s, l, e, c.want)
		}
	}
	if l, e := Lines(api.Set{}); len(l) != 0 || e != api.ErrForm {
		t.Errorf("P19.1: of nothing: %q, %d", l, e)
	}
}

// P19.1: a word of each error.
func TestWord(t *testing.T) {
	for e, want := range map[api.Errno]string{
		api.OK: "error 0", api.ErrForm: "error 10", api.ErrLarge: "error 11", api.ErrFull: "error 12",
		api.ErrNone: "error 13", api.ErrTask: "error 14", api.ErrPart: "error 15", api.ErrPlace: "error 16",
		api.ErrTwice: "error 17", api.ErrNested: "error 18", api.ErrLate: "late", api.ErrCap: "unknown",
		api.ErrLine: "error 21", 22: "error 22", -1: "error -1",
		math.MaxInt: "error 9223372036854775807", math.MinInt: "error -9223372036854775808",
	} {
		if got := Word(e); got != want {
			t.Errorf("P19.1: Word(%d): %q, not %q", int(e), got, want)
		}
	}
}

// DOC.md's rule 3: what is handed in is not changed; what is told is new memory.
func TestNothingIsShared(t *testing.T) {
	s := three(api.Fair)
	l, _ := Lines(s)
	other, _ := Lines(s)
	want := slices.Clone(other)
	for at := range l[:cap(l)] {
		l[:cap(l)][at] = "?"
	}
	if !task.Same(s, three(api.Fair)) || !slices.Equal(other, want) {
		t.Errorf("what was handed in, or told, was changed: %v, %q", s, other)
	}
	tells(t, s, want...)
}
