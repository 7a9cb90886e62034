package token

import (
	"math"
	"testing"

	"swingbridge/api"
	"swingbridge/task"
)

// parts of each kind.
func run(n int) api.Part       { return api.Part{Kind: api.Run, Len: n} }
func sleep(n int) api.Part     { return api.Part{Kind: api.Sleep, Len: n} }
func lock(res, n int) api.Part { return api.Part{Kind: api.Lock, Len: n, Res: res} }

// set: clusters of so many cores, without a task.
func set(cores ...int) api.Set {
	return api.Set{Protocol: api.Token, Cores: cores, Homes: []int{0, 0}}
}

// with: s with one task more, of that cluster.
func with(s api.Set, cluster int, parts ...api.Part) api.Set {
	at := len(s.Tasks)
	s = task.Copy(s)
	s.Tasks = append(s.Tasks, api.Task{Name: string(rune('a' + at)), Period: 100, Deadline: 100, Prio: 10 - at, Cluster: cluster, Parts: parts})
	return s
}

// good: at cluster 0 the longest Locks are 5, 9 and 2, at cluster 1 7 and 4; one task at 1 has none.
func good(cores ...int) api.Set {
	s := with(set(cores...), 0, lock(0, 5), run(60), lock(1, 3))
	s = with(s, 1, lock(1, 7))
	s = with(s, 0, lock(1, 1), lock(0, 9))
	s = with(s, 1, run(60), sleep(60))
	s = with(s, 0, lock(0, 2))
	return with(s, 1, sleep(1), lock(0, 4))
}

// inside, part: they tell just that.
func inside(t *testing.T, s api.Set, task, part, want int, ok bool) {
	t.Helper()
	if n, some := Inside(s, task, part); n != want || some != ok {
		t.Errorf("P15.1: %v: Inside(%d, %d): %d, %v, not %d, %v", s.Cores, task, part, n, some, want, ok)
	}
}

func whole(t *testing.T, s api.Set, task, part, want int, ok bool) {
	t.Helper()
	if n, some := Part(s, task, part); n != want || some != ok {
		t.Errorf("P15.2: %v: Part(%d, %d): %d, %v, not %d, %v", s.Cores, task, part, n, some, want, ok)
	}
}

func outside(t *testing.T, s api.Set, task, want int) {
	t.Helper()
	if n := Outside(s, task); n != want {
		t.Errorf("P15.1: %v: Outside(%d): %d, not %d", s.Cores, task, n, want)
	}
}

// P15.1: its Len, and one less than cores of the longest Locks of others, wherever they are.
func TestInside(t *testing.T) {
	// Two cores: the longest one.
	s := good(1, 1)
	inside(t, s, 0, 0, 5+9, true)
	inside(t, s, 0, 2, 3+9, true)
	inside(t, s, 1, 0, 7+9, true)
	inside(t, s, 2, 0, 1+7, true)
	inside(t, s, 2, 1, 9+7, true)
	inside(t, s, 4, 0, 2+9, true)
	inside(t, s, 5, 1, 4+9, true)
	// Four cores: the three longest ones.
	s = good(2, 2)
	inside(t, s, 0, 0, 5+9+7+4, true)
	inside(t, s, 2, 1, 9+7+5+4, true)
	inside(t, s, 5, 1, 4+9+7+5, true)
	// As many as there are, and more.
	for _, s := range []api.Set{good(3, 2), good(3, 3), good(3, 3, 3)} {
		inside(t, s, 0, 0, 5+9+7+4+2, true)
		inside(t, s, 4, 0, 2+9+7+5+4, true)
	}
	// One core: none.
	s = with(with(set(1), 0, lock(0, 3)), 0, lock(0, 60))
	inside(t, s, 0, 0, 3, true)
	inside(t, s, 1, 0, 60, true)
}

// P15.1: rounds, by how many ask at its cluster more than it has cores, times the slowest one there.
func TestOutside(t *testing.T) {
	// Cluster 0: three of one core: two rounds; cluster 1: two of one: one round. Slowest: 9+7 and 7+9.
	s := good(1, 1)
	for task, want := range []int{2 * 16, 1 * 16, 2 * 16, 0, 2 * 16, 1 * 16} {
		outside(t, s, task, want)
	}
	// Two cores: one round, of one that is more; none. Slowest: 9+7+5, 7+9+5.
	s = good(2, 1)
	for task, want := range []int{21, 21, 21, 0, 21, 21} {
		outside(t, s, task, want)
	}
	s = good(2, 2)
	for task, want := range []int{25, 0, 25, 0, 25, 0} {
		outside(t, s, task, want)
	}
	s = good(3, 3)
	for task := range s.Tasks {
		outside(t, s, task, 0)
	}
	for _, task := range []int{-1, 6, math.MinInt, math.MaxInt} {
		outside(t, good(1, 1), task, 0)
	}
}

// P15.1: so many tasks of one cluster, each with a Lock of 10, by its cores.
func TestRounds(t *testing.T) {
	for _, c := range []struct{ tasks, cores, rounds int }{
		{1, 1, 0}, {2, 1, 1}, {3, 1, 2}, {6, 1, 5},
		{1, 2, 0}, {2, 2, 0}, {3, 2, 1}, {4, 2, 1}, {5, 2, 2}, {6, 2, 2},
		{2, 3, 0}, {3, 3, 0}, {4, 3, 1}, {5, 3, 1}, {6, 3, 1},
	} {
		s := set(c.cores)
		for range c.tasks {
			s = with(s, 0, lock(0, 10))
		}
		slow := 10 * min(c.tasks, c.cores)
		for task := range c.tasks {
			inside(t, s, task, 0, slow, true)
			outside(t, s, task, c.rounds*slow)
			whole(t, s, task, 0, slow+c.rounds*slow, true)
		}
	}
}

// P15.1: only tasks of the cluster with a Lock make rounds, and count as the slowest one.
func TestOutsideOfOthers(t *testing.T) {
	// At cluster 0 two ask, of one core; the longest one, 60, is at cluster 1.
	s := with(with(with(set(1, 1), 0, lock(0, 1)), 0, lock(1, 2)), 1, lock(0, 60))
	outside(t, s, 0, 62)
	outside(t, s, 1, 62)
	outside(t, s, 2, 0)
	// The slowest one of cluster 0 is 2, beside 60, though 50 beside 60 is slower.
	s = with(s, 1, lock(0, 50))
	outside(t, s, 0, 62)
	outside(t, s, 3, 110)
	// Locks of a tick are Locks.
	s = with(with(with(set(1), 0, lock(0, 1)), 0, lock(0, 1)), 0, lock(0, 1))
	outside(t, s, 0, 2)
	// One that has no Lock makes no round.
	s = with(with(set(1), 0, lock(0, 1)), 0, run(60))
	outside(t, s, 0, 0)
	outside(t, s, 1, 0)
	s = with(with(s, 0, lock(0, 2)), 0, sleep(60))
	outside(t, s, 0, 2)
	outside(t, s, 1, 0)
	outside(t, s, 2, 2)
	// The slowest one is one with a Lock: beside another one stands more.
	s = with(with(with(set(1, 1), 0, lock(0, 3)), 0, lock(0, 4)), 0, run(1))
	s = with(s, 1, lock(0, 50))
	outside(t, s, 0, 54)
}

// P15.2, P15.3: both together.
func TestPart(t *testing.T) {
	whole(t, with(set(1), 0, lock(0, 3)), 0, 0, 3, true)
	s := good(1, 1)
	whole(t, s, 0, 0, 14+32, true)
	whole(t, s, 0, 2, 12+32, true)
	whole(t, s, 1, 0, 16+16, true)
	whole(t, s, 2, 0, 8+32, true)
	whole(t, s, 5, 1, 13+16, true)
	whole(t, good(2, 2), 1, 0, 7+9+5+4, true)
}

// P15.1, P15.2: the chapter names no protocol: all are told alike.
func TestOfAnyProtocol(t *testing.T) {
	for _, protocol := range []int{api.Fair, api.Agent, api.Token} {
		s := good(1, 1)
		s.Protocol = protocol
		inside(t, s, 0, 0, 14, true)
		outside(t, s, 0, 32)
		whole(t, s, 0, 0, 46, true)
	}
}

// P15.1, P15.2: no such task, no such part, no Lock.
func TestOfNone(t *testing.T) {
	s := good(1, 1)
	for _, c := range [][2]int{
		{-1, 0}, {6, 0}, {math.MinInt, 0}, {math.MaxInt, 0},
		{0, -1}, {0, 3}, {0, math.MinInt}, {0, math.MaxInt}, {0, 1}, {3, 0}, {3, 1}, {5, 0},
	} {
		inside(t, s, c[0], c[1], 0, false)
		whole(t, s, c[0], c[1], 0, false)
	}
}

// P15.1, P15.2: of a set that task's Check errs nothing is told.
func TestOfErrors(t *testing.T) {
	for _, change := range []func(*api.Set){
		func(s *api.Set) { s.Protocol = 4 },
		func(s *api.Set) { s.Cores[0] = 0 },
		func(s *api.Set) { s.Cores[0] = -1 },
		func(s *api.Set) { s.Cores[1] = 4 },
		func(s *api.Set) { s.Homes = nil },
		func(s *api.Set) { s.Tasks[5].Cluster = 2 },
		func(s *api.Set) { s.Tasks[5].Prio = 10 },
		func(s *api.Set) { s.Tasks[5].Parts[1].Res = 2 },
		func(s *api.Set) { s.Tasks[5].Parts = nil },
	} {
		s := good(1, 1)
		change(&s)
		inside(t, s, 0, 0, 0, false)
		outside(t, s, 0, 0)
		whole(t, s, 0, 0, 0, false)
	}
	inside(t, api.Set{}, 0, 0, 0, false)
	outside(t, api.Set{}, 0, 0)
}

// DOC.md's rule 3: what is handed in is not changed.
func TestSetsStayAsTheyWere(t *testing.T) {
	s := good(1, 1)
	Inside(s, 0, 0)
	Outside(s, 0)
	Part(s, 0, 0)
	if !task.Same(s, good(1, 1)) {
		t.Errorf("a set was changed: %v", s)
	}
}
