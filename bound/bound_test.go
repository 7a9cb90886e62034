package bound

import (
	"math"
	"slices"
	"testing"

	"swingbridge/api"
	"swingbridge/demand"
	"swingbridge/task"
	"swingbridge/wait"
)

const (
	most  = math.MaxInt
	least = math.MinInt
)

// parts of each kind.
func run(n int) api.Part       { return api.Part{Kind: api.Run, Len: n} }
func sleep(n int) api.Part     { return api.Part{Kind: api.Sleep, Len: n} }
func lock(res, n int) api.Part { return api.Part{Kind: api.Lock, Len: n, Res: res} }

// of: a task of this Prio, at that cluster, each so many ticks, with these parts.
func of(prio, cluster, period int, parts ...api.Part) api.Task {
	return api.Task{Name: "p" + string(rune('a'+prio)), Period: period, Deadline: period, Prio: prio, Cluster: cluster, Parts: parts}
}

// good: cluster 0 has two cores and is the home of resources 0 and 2, cluster 1 has one core.
func good(protocol int) api.Set {
	return api.Set{Protocol: protocol, Cores: []int{2, 1}, Homes: []int{0, 1, 0}, Tasks: []api.Task{
		// Runs 5, Locks 5: at cluster 0 4, at cluster 1 1.
		of(3, 0, 50, run(3), lock(0, 4), run(2), lock(1, 1)),
		// Runs 7, Locks 2, all at cluster 0.
		of(1, 0, 40, run(7), sleep(5), lock(0, 2)),
		// Runs 9, Locks 9: at cluster 0 6, at cluster 1 3.
		of(2, 1, 60, run(9), lock(2, 6), lock(1, 3)),
		// Runs 11, no Lock.
		of(5, 0, 100, run(11), sleep(2)),
	}}
}

func goodBounds() []int { return []int{20, 10, 30, 40} }

// protocols: all that there are.
func protocols() []int { return []int{api.Fair, api.Agent, api.Token} }

// own, others, next: they tell just that.
func own(t *testing.T, s api.Set, bounds []int, task, want int, ok bool) {
	t.Helper()
	if n, some := Own(s, bounds, task); n != want || some != ok {
		t.Errorf("P17.1: protocol %d: Own(%v, %d): %d, %v, not %d, %v", s.Protocol, bounds, task, n, some, want, ok)
	}
}

func others(t *testing.T, s api.Set, bounds []int, task, window, want int) {
	t.Helper()
	if n := Others(s, bounds, task, window); n != want {
		t.Errorf("P17.2: protocol %d: Others(%v, %d, %d): %d, not %d", s.Protocol, bounds, task, window, n, want)
	}
}

func next(t *testing.T, s api.Set, bounds []int, task, want int, ok bool) {
	t.Helper()
	if n, some := Next(s, bounds, task); n != want || some != ok {
		t.Errorf("P17.2: protocol %d: Next(%v, %d): %d, %v, not %d, %v", s.Protocol, bounds, task, n, some, want, ok)
	}
}

// P17.1: Runs, Sleeps and waits together.
func TestOwn(t *testing.T) {
	for protocol, want := range map[int][]int{
		// The longest Locks are 4, 2, 6.
		api.Fair:  {5 + 12 + 9, 7 + 5 + 12, 9 + 12 + 9, 13},
		api.Token: {5 + 12 + 9, 7 + 5 + 12, 9 + 12 + 9, 13},
		api.Agent: {5 + 12 + 4, 7 + 5 + 8, 9 + 12 + 4, 13},
	} {
		for task, n := range want {
			own(t, good(protocol), goodBounds(), task, n, true)
		}
	}
}

// P17.1: it is wait's Sum that is told beside them, also where cores or bounds are others.
func TestOwnIsBesideTheWaits(t *testing.T) {
	for _, protocol := range protocols() {
		for _, cores := range [][]int{{1, 1}, {2, 1}, {3, 3}} {
			for _, bounds := range [][]int{{0, 0, 0, 0}, {9, 35, 50, 99}, {50, 40, 60, 100}, {-1, -1, -1, -1}, nil, {1, 2, 3}} {
				s := good(protocol)
				s.Cores = cores
				for task, of := range s.Tasks {
					sum, ok := wait.Sum(s, bounds, task)
					if ok {
						sum += demand.Runs(of) + demand.Sleeps(of)
					}
					own(t, s, bounds, task, sum, ok)
				}
			}
		}
	}
}

// P17.1: false, where wait's Sum is: no such task, a Lock that has none, a set that task's Check errs.
func TestOwnOfNone(t *testing.T) {
	for _, protocol := range protocols() {
		for _, task := range []int{-1, 4, least, most} {
			own(t, good(protocol), goodBounds(), task, 0, false)
		}
		own(t, good(protocol), nil, 0, 0, false)
		own(t, good(protocol), []int{1, 2, 3, 4, 5}, 1, 0, false)
		// It has no Locks, and waits for none.
		own(t, good(protocol), nil, 3, 13, true)
	}
	own(t, good(api.Agent), []int{20, most, 30, 40}, 0, 0, false)
	own(t, good(api.Agent), []int{20, most, 30, 40}, 2, 0, false)
	own(t, good(api.Agent), []int{20, most, 30, 40}, 3, 13, true)
}

// P17.2: Fair and Token: of its cluster, the whole of those of lesser Prio, else what they lock.
func TestOthersInALine(t *testing.T) {
	for _, protocol := range []int{api.Fair, api.Token} {
		for _, c := range []struct{ task, window, want int }{
			// 9 of the second one, of window and 10 by 40; by two cores.
			{0, 1, 9 / 2}, {0, 30, 9 / 2}, {0, 31, 18 / 2}, {0, 70, 18 / 2}, {0, 71, 27 / 2},
			// 5 of the first one, of window and 20 by 50.
			{1, 30, 5 / 2}, {1, 31, 10 / 2}, {1, 81, 15 / 2},
			// Nobody else is there.
			{2, 1, 0}, {2, 1000, 0},
			// 10 of the first one, 9 of the second one.
			{3, 30, 19 / 2}, {3, 31, 38 / 2}, {3, 71, 47 / 2}, {3, 81, 57 / 2},
		} {
			others(t, good(protocol), goodBounds(), c.task, c.window, c.want)
		}
	}
}

// P17.2: Agent: Runs of its cluster of lesser Prio, and all that is served there.
func TestOthersAtAnAgent(t *testing.T) {
	for _, c := range []struct{ task, window, want int }{
		// 9 of the second one, and 6 of the third one, of window and 30 by 60; by two cores.
		{0, 1, 15 / 2}, {0, 30, 15 / 2}, {0, 31, (18 + 12) / 2}, {0, 71, (27 + 12) / 2}, {0, 91, (27 + 18) / 2},
		// 4 of the first one, and 6 of the third one.
		{1, 30, 10 / 2}, {1, 31, (8 + 12) / 2}, {1, 81, (12 + 12) / 2},
		// At cluster 1: 1 of the first one; by one core.
		{2, 30, 1}, {2, 31, 2}, {2, 81, 3},
		// 9 of the first one, 9 of the second one, 6 of the third one.
		{3, 30, 24 / 2}, {3, 31, 48 / 2}, {3, 71, (18 + 27 + 12) / 2},
	} {
		others(t, good(api.Agent), goodBounds(), c.task, c.window, c.want)
	}
}

// P17.2: rounded down once, of all together.
func TestOthersAreRoundedDownTogether(t *testing.T) {
	for _, protocol := range protocols() {
		s := good(protocol)
		s.Homes = []int{1, 1, 1}
		s.Tasks[0].Parts = []api.Part{run(5)}
		s.Tasks[1].Parts = []api.Part{run(3)}
		s.Tasks[2].Parts = []api.Part{run(60)}
		for cores, want := range []int{0, 8, 4, 2} {
			if cores > 0 {
				s.Cores = []int{cores, 3}
				others(t, s, goodBounds(), 3, 1, want)
			}
		}
		// The one of least Prio waits for none; itself counts for nothing.
		others(t, s, goodBounds(), 1, 1000, 0)
		others(t, s, goodBounds(), 2, 1000, 0)
	}
}

// P17.2: windows and bounds at their ends; Work is at most MaxTime of each task.
func TestOthersAtTheEdges(t *testing.T) {
	for _, protocol := range protocols() {
		for _, window := range []int{0, -1, least} {
			for task := range 4 {
				others(t, good(protocol), goodBounds(), task, window, 0)
			}
		}
	}
	zeros, greatest := []int{0, 0, 0, 0}, []int{most, most, most, most}
	others(t, good(api.Fair), zeros, 3, 1, 19/2)
	others(t, good(api.Fair), zeros, 3, 40, 19/2)
	others(t, good(api.Fair), zeros, 3, 41, 28/2)
	others(t, good(api.Fair), zeros, 3, most, 2*api.MaxTime/2)
	others(t, good(api.Fair), greatest, 3, 1, 2*api.MaxTime/2)
	others(t, good(api.Fair), greatest, 0, most, api.MaxTime/2)
	others(t, good(api.Agent), greatest, 3, most, 3*api.MaxTime/2)
	others(t, good(api.Agent), greatest, 2, 1, api.MaxTime)
	// 200000 jobs of 9 each: their Runs and Locks are cut together.
	for _, protocol := range protocols() {
		s := good(protocol)
		s.Tasks[2].Parts = []api.Part{run(9)}
		others(t, s, []int{0, 200000*40 - 1, 0, 0}, 0, 1, api.MaxTime/2)
	}
}

// P17.2: no such task, other many bounds, one below 0, a set that task's Check errs.
func TestOthersOfNone(t *testing.T) {
	for _, protocol := range protocols() {
		for _, task := range []int{-1, 4, least, most} {
			others(t, good(protocol), goodBounds(), task, 31, 0)
		}
		for _, bounds := range [][]int{
			nil, {20, 10, 30}, {20, 10, 30, 40, 50},
			{-1, 10, 30, 40}, {20, -1, 30, 40}, {20, 10, -1, 40}, {20, 10, 30, -1}, {20, 10, 30, least},
		} {
			for task := range 4 {
				others(t, good(protocol), bounds, task, 31, 0)
			}
		}
	}
}

// P17.2, P17.3: Own, and Others in the task's bound.
func TestNext(t *testing.T) {
	for protocol, want := range map[int][]int{
		api.Fair:  {26 + 9/2, 24 + 5/2, 30, 13 + 38/2},
		api.Token: {26 + 9/2, 24 + 5/2, 30, 13 + 38/2},
		api.Agent: {21 + 15/2, 20 + 10/2, 25 + 1, 13 + 48/2},
	} {
		for task, n := range want {
			next(t, good(protocol), goodBounds(), task, n, true)
		}
		// A window of nothing.
		next(t, good(protocol), []int{20, 10, 30, 0}, 3, 13, true)
	}
	// Its bound is the window, and the rivals' bounds count.
	next(t, good(api.Fair), []int{30, 10, 30, 40}, 0, 26+9/2, true)
	next(t, good(api.Fair), []int{31, 10, 30, 40}, 0, 26+18/2, true)
	next(t, good(api.Fair), []int{31, 9, 30, 40}, 0, 26+9/2, true)
	for _, protocol := range protocols() {
		alone := good(protocol)
		alone.Tasks = []api.Task{of(1, 1, 10, run(3))}
		for _, bound := range []int{0, 3, most} {
			own(t, alone, []int{bound}, 0, 3, true)
			next(t, alone, []int{bound}, 0, 3, true)
			others(t, alone, []int{bound}, 0, most, 0)
		}
	}
}

// P17.2: no such task, other many bounds (also of a task without Locks), a Lock that has none.
func TestNextOfNone(t *testing.T) {
	for _, protocol := range protocols() {
		for _, task := range []int{-1, 4, least, most} {
			next(t, good(protocol), goodBounds(), task, 0, false)
		}
		for _, bounds := range [][]int{nil, {20, 10, 30}, {20, 10, 30, 40, 50}} {
			for task := range 4 {
				next(t, good(protocol), bounds, task, 0, false)
			}
		}
		// One below 0: Others tells nothing.
		next(t, good(protocol), []int{-1, 10, 30, 40}, 3, 13, true)
		next(t, good(protocol), []int{20, 10, 30, -1}, 3, 13, true)
	}
	next(t, good(api.Agent), []int{20, most, 30, 40}, 0, 0, false)
}

// P17.1, P17.2: of a set that task's Check errs nothing is told.
func TestOfErrors(t *testing.T) {
	for _, protocol := range protocols() {
		for _, change := range []func(*api.Set){
			func(s *api.Set) { s.Protocol = 0 },
			func(s *api.Set) { s.Protocol = 4 },
			func(s *api.Set) { s.Cores[0] = 0 },
			func(s *api.Set) { s.Cores = nil },
			func(s *api.Set) { s.Homes = nil },
			func(s *api.Set) { s.Tasks[0].Cluster = 2 },
			func(s *api.Set) { s.Tasks[3].Prio = 1 },
			func(s *api.Set) { s.Tasks[3].Parts = nil },
		} {
			s := good(protocol)
			change(&s)
			for task := range s.Tasks {
				own(t, s, goodBounds(), task, 0, false)
				others(t, s, goodBounds(), task, 31, 0)
				next(t, s, goodBounds(), task, 0, false)
			}
		}
	}
	own(t, api.Set{}, nil, 0, 0, false)
	others(t, api.Set{}, nil, 0, 1, 0)
	next(t, api.Set{}, nil, 0, 0, false)
}

// DOC.md's rule 3: what is handed in is not changed.
func TestArgumentsStayAsTheyWere(t *testing.T) {
	for _, protocol := range protocols() {
		s, bounds := good(protocol), append(goodBounds(), 77)[:4]
		Own(s, bounds, 0)
		Others(s, bounds, 0, 31)
		Next(s, bounds, 0)
		if !task.Same(s, good(protocol)) || !slices.Equal(bounds[:5], []int{20, 10, 30, 40, 77}) {
			t.Errorf("protocol %d: what was handed in was changed: %v, %v", protocol, s, bounds)
		}
	}
}
