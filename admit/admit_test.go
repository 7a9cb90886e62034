package admit

import (
	"slices"
	"testing"

	"swingbridge/api"
	"swingbridge/bound"
	"swingbridge/canon"
	"swingbridge/task"
	"swingbridge/wait"
)

// parts of each kind.
func run(n int) api.Part       { return api.Part{Kind: api.Run, Len: n} }
func sleep(n int) api.Part     { return api.Part{Kind: api.Sleep, Len: n} }
func lock(res, n int) api.Part { return api.Part{Kind: api.Lock, Len: n, Res: res} }

// of: a task of this Prio, at that cluster, each so many ticks, with these parts.
func of(prio, cluster, period int, parts ...api.Part) api.Task {
	return api.Task{Name: "p" + string(rune('a'+prio)), Period: period, Deadline: period, Prio: prio, Cluster: cluster, Parts: parts}
}

// two: they share a lock on one core.
func two(protocol int) api.Set {
	return api.Set{Protocol: protocol, Cores: []int{1}, Homes: []int{0}, Tasks: []api.Task{
		of(1, 0, 50, run(2), lock(0, 4)),
		of(2, 0, 50, lock(0, 3), run(1)),
	}}
}

// many: of all kinds, at two clusters.
func many(protocol int) api.Set {
	return api.Set{Protocol: protocol, Cores: []int{2, 1}, Homes: []int{0, 1, 0}, Tasks: []api.Task{
		of(3, 0, 90, run(3), lock(0, 4), run(2), lock(1, 1)),
		of(1, 0, 40, run(7), sleep(5), lock(0, 2)),
		of(2, 1, 60, run(9), lock(2, 6), lock(1, 3)),
		of(9, 1, 200, sleep(3), lock(1, 2), run(8)),
		of(5, 0, 100, run(11), sleep(2)),
	}}
}

// runners: of one core, each of a period and a Run, in order of their Prio.
func runners(periods, runs []int) api.Set {
	s := api.Set{Protocol: api.Fair, Cores: []int{1}}
	for at, period := range periods {
		s.Tasks = append(s.Tasks, of(at+1, 0, period, run(runs[at])))
	}
	return s
}

// choked: the lock of the second task comes to no end, as far as can be told.
func choked() api.Set {
	return api.Set{Protocol: api.Agent, Cores: []int{1, 1, 1}, Homes: []int{0}, Tasks: []api.Task{
		of(1, 1, 390, lock(0, 60), lock(0, 60), lock(0, 60), lock(0, 60), lock(0, 60), lock(0, 60)),
		of(2, 2, 3000, lock(0, 5)),
	}}
}

// protocols: all that there are.
func protocols() []int { return []int{api.Fair, api.Agent, api.Token} }

// admitted: Analyze tells these bounds and waits.
func admitted(t *testing.T, s api.Set, bounds []int, waits ...[]int) {
	t.Helper()
	v, e := Analyze(s)
	if e != api.OK || !v.OK || !slices.Equal(v.Bounds, bounds) || !slices.EqualFunc(v.Waits, waits, slices.Equal[[]int]) {
		t.Errorf("P18.2: protocol %d: %v, %d, not %v, %v", s.Protocol, v, e, bounds, waits)
	}
}

// refused: Analyze tells that error, and nothing beside it.
func refused(t *testing.T, s api.Set, want api.Errno) {
	t.Helper()
	if v, e := Analyze(s); e != want || v.OK || len(v.Bounds) != 0 || len(v.Waits) != 0 {
		t.Errorf("P18.2: %v: %v, %d, not %d", s, v, e, want)
	}
}

// holds: Holds tells that.
func holds(t *testing.T, s api.Set, bounds []int, want bool) {
	t.Helper()
	if Holds(s, bounds) != want {
		t.Errorf("P18.1: protocol %d: Holds(%v) isn't %v", s.Protocol, bounds, want)
	}
}

// P18.2: one task alone.
func TestAlone(t *testing.T) {
	for _, protocol := range protocols() {
		s := runners([]int{3}, []int{3})
		s.Protocol = protocol
		admitted(t, s, []int{3}, []int{0})
		s.Tasks[0].Deadline = 2
		refused(t, s, api.ErrLate)
		s = api.Set{Protocol: protocol, Cores: []int{1}, Homes: []int{0}, Tasks: []api.Task{
			of(1, 0, 20, run(1), lock(0, 2), sleep(4), lock(0, 8)),
		}}
		admitted(t, s, []int{15}, []int{0, 2, 0, 8})
		s.Tasks[0].Deadline = 15
		admitted(t, s, []int{15}, []int{0, 2, 0, 8})
		s.Tasks[0].Deadline = 14
		refused(t, s, api.ErrLate)
	}
}

// P18.2: two that share a lock, by hand.
func TestTwo(t *testing.T) {
	admitted(t, two(api.Fair), []int{2 + 7 + 3, 1 + 7 + 6}, []int{0, 7}, []int{7, 0})
	admitted(t, two(api.Agent), []int{2 + 7 + 3, 1 + 7 + 6}, []int{0, 7}, []int{7, 0})
	admitted(t, two(api.Token), []int{2 + 8 + 3, 1 + 7 + 6}, []int{0, 8}, []int{7, 0})
}

// P18.2: a Deadline that is just the bound, and one that is a tick less, of each task.
func TestDeadlines(t *testing.T) {
	for _, protocol := range protocols() {
		for _, s := range []api.Set{two(protocol), many(protocol)} {
			v, e := Analyze(s)
			if e != api.OK {
				t.Fatalf("P18.2: protocol %d: %d", protocol, e)
			}
			for at, n := range v.Bounds {
				s.Tasks[at].Deadline = n
			}
			admitted(t, s, v.Bounds, v.Waits...)
			for at, n := range v.Bounds {
				s.Tasks[at].Deadline = n - 1
				refused(t, s, api.ErrLate)
				s.Tasks[at].Deadline = n
			}
		}
	}
}

// P18.2: each bound is just its Next, the waits are wait's, and Holds tells so.
func TestBoundsAreTheirNexts(t *testing.T) {
	for _, protocol := range protocols() {
		for _, s := range []api.Set{two(protocol), many(protocol)} {
			v, e := Analyze(s)
			if e != api.OK || !v.OK || len(v.Bounds) != len(s.Tasks) || len(v.Waits) != len(s.Tasks) {
				t.Fatalf("P18.2: protocol %d: %v, %d", protocol, v, e)
			}
			for at := range s.Tasks {
				if n, ok := bound.Next(s, v.Bounds, at); !ok || n != v.Bounds[at] {
					t.Errorf("P18.2: protocol %d: Next of %v, %d: %d, %v", protocol, v.Bounds, at, n, ok)
				}
				if all, ok := wait.All(s, v.Bounds, at); !ok || !slices.Equal(all, v.Waits[at]) {
					t.Errorf("P18.2: protocol %d: All of %v, %d: %v, not %v", protocol, v.Bounds, at, all, v.Waits[at])
				}
			}
			holds(t, s, v.Bounds, true)
		}
	}
}

// P18.2: no lesser bounds are all their Nexts.
func TestBoundsAreTheLeast(t *testing.T) {
	for _, protocol := range protocols() {
		s := two(protocol)
		s.Tasks[0].Period, s.Tasks[0].Deadline = 15, 15
		v, e := Analyze(s)
		if e != api.OK {
			t.Fatalf("P18.2: protocol %d: %d", protocol, e)
		}
		for a := range s.Tasks[0].Deadline + 1 {
			for b := range s.Tasks[1].Deadline + 1 {
				first, _ := bound.Next(s, []int{a, b}, 0)
				second, _ := bound.Next(s, []int{a, b}, 1)
				if first == a && second == b && (a < v.Bounds[0] || b < v.Bounds[1]) {
					t.Errorf("P18.2: protocol %d: %v, but %d, %d would do", protocol, v.Bounds, a, b)
				}
			}
		}
	}
}

// P18.2: bounds grow with one another, and are late once one is.
func TestRounds(t *testing.T) {
	none := []int{0}
	admitted(t, runners([]int{10, 10}, []int{2, 3}), []int{2, 5}, none, none)
	// Of 3 it becomes 5, then 7: two come in 5 and in 7 ticks.
	admitted(t, runners([]int{5, 20}, []int{2, 3}), []int{2, 7}, none, none)
	admitted(t, runners([]int{5, 20, 20}, []int{2, 3, 1}), []int{2, 7, 8}, none, none, none)
	// The core has nothing left for the second one.
	refused(t, runners([]int{3, 500}, []int{3, 1}), api.ErrLate)
	refused(t, runners([]int{10, 10}, []int{2, 9}), api.ErrLate)
	refused(t, choked(), api.ErrLate)
}

// P18.2: a set is known to be late in the round in which it is, before rounds run out; 200 rounds are enough, 201 aren't.
func TestRoundsAreCounted(t *testing.T) {
	none := []int{0}
	s := runners([]int{2, 5, 72, 191, 744, 2997}, []int{1, 2, 3, 4, 16, 12})
	admitted(t, s, []int{1, 5, 55, 155, 715, 2785}, none, none, none, none, none, none)
	s = runners([]int{2, 5, 72, 191, 745, 2997}, []int{1, 2, 3, 4, 16, 12})
	refused(t, s, api.ErrCap)
	holds(t, s, []int{1, 5, 55, 155, 715, 2785}, true)
	// 2 more each round, from 1 on: 401 is told in the last round.
	s = runners([]int{1, 3000}, []int{1, 1})
	refused(t, s, api.ErrCap)
	s.Tasks[1].Deadline = 401
	refused(t, s, api.ErrCap)
	s.Tasks[1].Deadline = 400
	refused(t, s, api.ErrLate)
}

// P18.2: task's Check's error.
func TestErrors(t *testing.T) {
	for _, c := range []struct {
		change func(*api.Set)
		want   api.Errno
	}{
		{func(s *api.Set) { s.Protocol = 0 }, api.ErrForm},
		{func(s *api.Set) { s.Protocol = 4 }, api.ErrForm},
		{func(s *api.Set) { s.Cores = nil }, api.ErrPlace},
		{func(s *api.Set) { s.Homes[0] = 2 }, api.ErrPlace},
		{func(s *api.Set) { s.Tasks = append(s.Tasks, s.Tasks[0], s.Tasks[0]) }, api.ErrLarge},
		{func(s *api.Set) { s.Tasks = nil }, api.ErrTask},
		{func(s *api.Set) { s.Tasks[4].Deadline = 101 }, api.ErrForm},
		{func(s *api.Set) { s.Tasks[4].Cluster = 2 }, api.ErrPlace},
		{func(s *api.Set) { s.Tasks[4].Prio = 9 }, api.ErrTwice},
		{func(s *api.Set) { s.Tasks[4].Parts = nil }, api.ErrPart},
	} {
		s := many(api.Agent)
		v, _ := Analyze(s)
		c.change(&s)
		refused(t, s, c.want)
		holds(t, s, v.Bounds, false)
		holds(t, s, v.Bounds[:min(len(s.Tasks), len(v.Bounds))], false)
	}
	refused(t, api.Set{}, api.ErrForm)
	holds(t, api.Set{}, nil, false)
}

// P18.1: from 1 to the Deadline, and not below Next.
func TestHolds(t *testing.T) {
	for _, protocol := range protocols() {
		s := two(protocol)
		v, _ := Analyze(s)
		a, b := v.Bounds[0], v.Bounds[1]
		holds(t, s, []int{a, b}, true)
		holds(t, s, []int{a + 1, b + 1}, true)
		holds(t, s, []int{a - 1, b}, false)
		holds(t, s, []int{a, b - 1}, false)
		s.Tasks[0].Deadline, s.Tasks[1].Deadline = 20, 21
		holds(t, s, []int{20, 21}, true)
		holds(t, s, []int{21, 21}, false)
		holds(t, s, []int{20, 22}, false)
		for _, bounds := range [][]int{nil, {a}, {a, b, b}, {0, b}, {a, 0}, {-1, b}, {a, -1}, {-1, -1}} {
			holds(t, s, bounds, false)
		}
	}
	// The first one's bound is within its Deadline; the second one has no Next.
	holds(t, choked(), []int{390, 3000}, false)
	s := choked()
	s.Tasks[1].Parts = []api.Part{run(5)}
	holds(t, s, []int{390, 3000}, true)
}

// P18.2: greater bounds may hold too: what is late for the rounds isn't always late.
func TestHoldsWhereRoundsRanOut(t *testing.T) {
	s := runners([]int{1, 3000}, []int{1, 1})
	holds(t, s, []int{1, 3000}, false)
	s.Cores = []int{2}
	holds(t, s, []int{1, 2}, true)
	holds(t, s, []int{1, 3000}, true)
	admitted(t, s, []int{1, 2}, []int{0}, []int{0})
}

// DOC.md's P40.6: the verdict doesn't hang on how the tasks stand.
func TestOrderOfTasks(t *testing.T) {
	for _, protocol := range protocols() {
		s := many(protocol)
		v, _ := Analyze(s)
		for by := range s.Tasks {
			turned := slices.Concat(v.Bounds[by:], v.Bounds[:by])
			admitted(t, canon.Move(s, by), turned, slices.Concat(v.Waits[by:], v.Waits[:by])...)
		}
		late := many(protocol)
		late.Tasks[1].Deadline = v.Bounds[1] - 1
		for by := range s.Tasks {
			refused(t, canon.Move(late, by), api.ErrLate)
		}
	}
	for by := range 6 {
		refused(t, canon.Move(runners([]int{2, 5, 72, 191, 745, 2997}, []int{1, 2, 3, 4, 16, 12}), by), api.ErrCap)
	}
}

// DOC.md's rule 3: what is handed in is not changed; what is told is new memory, of no two lists the same.
func TestNothingIsShared(t *testing.T) {
	for _, protocol := range protocols() {
		s := many(protocol)
		v, _ := Analyze(s)
		first := slices.Clone(v.Bounds)
		other, _ := Analyze(s)
		for _, l := range append([][]int{v.Bounds}, v.Waits...) {
			for at := range l[:cap(l)] {
				l[:cap(l)][at] = -9
			}
		}
		bounds := append(slices.Clone(first), 77)[:5]
		Holds(s, bounds)
		if !task.Same(s, many(protocol)) || !slices.Equal(bounds[:6], append(slices.Clone(first), 77)) {
			t.Errorf("protocol %d: what was handed in was changed: %v, %v", protocol, s, bounds)
		}
		admitted(t, s, first, other.Waits...)
		if !slices.Equal(other.Bounds, first) {
			t.Errorf("protocol %d: an answer was changed: %v", protocol, other)
		}
		// Writing all of one list leaves the others as they are.
		for at := range other.Waits {
			next, _ := wait.All(s, first, at)
			if !slices.Equal(other.Waits[at], next) {
				t.Errorf("protocol %d: lists of one answer share memory: %v", protocol, other.Waits)
			}
			l := other.Waits[at][:cap(other.Waits[at])]
			for k := range l {
				l[k] = -9
			}
		}
	}
}
