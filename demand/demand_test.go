package demand

import (
	"math"
	"testing"

	"swingbridge/api"
	"swingbridge/task"
)

// parts of each kind.
func run(n int) api.Part       { return api.Part{Kind: api.Run, Len: n} }
func sleep(n int) api.Part     { return api.Part{Kind: api.Sleep, Len: n} }
func lock(res, n int) api.Part { return api.Part{Kind: api.Lock, Len: n, Res: res} }

// P11.1, P11.3: the Lens of a Kind together; the greatest one of a Lock; whatever else the task is.
func TestOfATask(t *testing.T) {
	for _, c := range []struct {
		what                         string
		parts                        []api.Part
		runs, sleeps, locks, longest int
	}{
		{"none", nil, 0, 0, 0, 0},
		{"empty", []api.Part{}, 0, 0, 0, 0},
		{"the example", []api.Part{run(3), lock(0, 2)}, 3, 0, 2, 2},
		{"one of each", []api.Part{run(3), sleep(5), lock(0, 7)}, 3, 5, 7, 7},
		{"no Lock", []api.Part{run(3), sleep(5), run(4), sleep(6)}, 7, 11, 0, 0},
		{"the last is longest", []api.Part{lock(0, 2), lock(1, 2), lock(9, 5)}, 0, 0, 9, 5},
		{"the first is longest", []api.Part{lock(0, 6), run(60), lock(1, 2), sleep(60)}, 60, 60, 8, 6},
		{"the middle is longest", []api.Part{lock(0, 1), lock(0, 6), lock(0, 2)}, 0, 0, 9, 6},
		{"other kinds", []api.Part{{Kind: 0, Len: 9}, {Kind: 4, Len: 9}, {Kind: -1, Len: 9}, lock(-3, 1)}, 0, 0, 1, 1},
		{"going round", []api.Part{run(math.MaxInt), run(1), sleep(math.MinInt), sleep(-1), lock(0, math.MaxInt), lock(0, 2)},
			math.MinInt, math.MaxInt, math.MinInt + 1, math.MaxInt},
		{"below 0", []api.Part{run(-1), run(-2), sleep(-3), lock(0, -7), lock(0, -5)}, -3, -3, -12, -5},
	} {
		x := api.Task{Name: "?", Cluster: -9, Parts: c.parts}
		if got := Runs(x); got != c.runs {
			t.Errorf("P11.1: %s: Runs: %d, not %d", c.what, got, c.runs)
		}
		if got := Sleeps(x); got != c.sleeps {
			t.Errorf("P11.1: %s: Sleeps: %d, not %d", c.what, got, c.sleeps)
		}
		if got := Locks(x); got != c.locks {
			t.Errorf("P11.1: %s: Locks: %d, not %d", c.what, got, c.locks)
		}
		if got := Longest(x); got != c.longest {
			t.Errorf("P11.1: %s: Longest: %d, not %d", c.what, got, c.longest)
		}
	}
}

// good: a set of three clusters; resources 0 and 3 are at cluster 1, 1 at 0, 2 at 2.
func good() api.Set {
	s := api.Set{Protocol: api.Agent, Cores: []int{1, 3, 2}, Homes: []int{1, 0, 2, 1}}
	for at, parts := range [][]api.Part{
		{run(3), lock(0, 5), lock(1, 7), lock(3, 9), lock(0, 2)},
		{lock(2, 60)},
		{run(60), sleep(60)},
		{sleep(1), lock(0, 4), lock(3, 3)},
		{lock(1, 1), lock(2, 1), lock(1, 1)},
	} {
		s.Tasks = append(s.Tasks, api.Task{Name: string(rune('a' + at)), Period: 100, Deadline: 100, Prio: 9 - at,
			Cluster: []int{1, 0, 1, 1, 0}[at], Parts: parts})
	}
	return s
}

// P11.2: by task and cluster; where there is none 0.
func TestAtAndMost(t *testing.T) {
	s := good()
	for _, c := range []struct{ task, cluster, at, most int }{
		{0, 0, 7, 7}, {0, 1, 16, 9}, {0, 2, 0, 0},
		{1, 0, 0, 0}, {1, 1, 0, 0}, {1, 2, 60, 60},
		{2, 0, 0, 0}, {2, 1, 0, 0}, {2, 2, 0, 0},
		{3, 0, 0, 0}, {3, 1, 7, 4}, {3, 2, 0, 0},
		{4, 0, 2, 1}, {4, 1, 0, 0}, {4, 2, 1, 1},
		{-1, 1, 0, 0}, {5, 1, 0, 0}, {math.MinInt, 1, 0, 0}, {math.MaxInt, 1, 0, 0},
		{0, -1, 0, 0}, {0, 3, 0, 0}, {0, math.MinInt, 0, 0}, {0, math.MaxInt, 0, 0},
	} {
		if got := At(s, c.task, c.cluster); got != c.at {
			t.Errorf("P11.2: At(%d, %d): %d, not %d", c.task, c.cluster, got, c.at)
		}
		if got := Most(s, c.task, c.cluster); got != c.most {
			t.Errorf("P11.2: Most(%d, %d): %d, not %d", c.task, c.cluster, got, c.most)
		}
	}
}

// P11.2: of all clusters together; of one how many of its tasks have a Lock.
func TestCoresAndAskers(t *testing.T) {
	s := good()
	if got := Cores(s); got != 6 {
		t.Errorf("P11.2: Cores: %d", got)
	}
	for cluster, want := range map[int]int{0: 2, 1: 2, 2: 0, -1: 0, 3: 0, math.MinInt: 0, math.MaxInt: 0} {
		if got := Askers(s, cluster); got != want {
			t.Errorf("P11.2: Askers(%d): %d, not %d", cluster, got, want)
		}
	}
	s.Cores = []int{3, 3, 3}
	if got := Cores(s); got != 9 {
		t.Errorf("P11.2: Cores: %d", got)
	}
	one := api.Set{Protocol: api.Fair, Cores: []int{1}, Tasks: []api.Task{{Name: "a", Period: 1, Deadline: 1, Prio: 1, Parts: []api.Part{run(1)}}}}
	if Cores(one) != 1 || Askers(one, 0) != 0 || At(one, 0, 0) != 0 || Most(one, 0, 0) != 0 {
		t.Error("P11.2: one task without a Lock")
	}
}

// P11.2: of a set that task's Check doesn't tell OK all are 0.
func TestOfErrors(t *testing.T) {
	for what, change := range map[string]func(*api.Set){
		"protocol":   func(s *api.Set) { s.Protocol = 0 },
		"no cores":   func(s *api.Set) { s.Cores[2] = 0 },
		"many cores": func(s *api.Set) { s.Cores[0] = 4 },
		"home":       func(s *api.Set) { s.Homes[2] = 3 },
		"no homes":   func(s *api.Set) { s.Homes = nil },
		"no task":    func(s *api.Set) { s.Tasks = nil },
		"period":     func(s *api.Set) { s.Tasks[4].Period = 0 },
		"twice":      func(s *api.Set) { s.Tasks[4].Prio = 9 },
		"resource":   func(s *api.Set) { s.Tasks[4].Parts[0].Res = 4 },
		"no parts":   func(s *api.Set) { s.Tasks[4].Parts = nil },
	} {
		s := good()
		change(&s)
		for cluster := range 3 {
			if At(s, 0, cluster) != 0 || Most(s, 0, cluster) != 0 || Askers(s, cluster) != 0 {
				t.Errorf("P11.2: %s: cluster %d isn't 0", what, cluster)
			}
		}
		if Cores(s) != 0 {
			t.Errorf("P11.2: %s: Cores aren't 0", what)
		}
	}
}

// DOC.md's rule 3: what is handed in is not changed.
func TestSetsStayAsTheyWere(t *testing.T) {
	s := good()
	At(s, 0, 1)
	Most(s, 0, 1)
	Cores(s)
	Askers(s, 1)
	if !task.Same(s, good()) {
		t.Errorf("a set was changed: %v", s)
	}
}
