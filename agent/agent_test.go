package agent

import (
	"math"
	"slices"
	"testing"

	"swingbridge/api"
	"swingbridge/task"
)

const (
	most  = math.MaxInt
	least = math.MinInt
)

// parts of each kind.
func run(n int) api.Part       { return api.Part{Kind: api.Run, Len: n} }
func sleep(n int) api.Part     { return api.Part{Kind: api.Sleep, Len: n} }
func lock(res, n int) api.Part { return api.Part{Kind: api.Lock, Len: n, Res: res} }

// of: a task of this Prio, each so many ticks, with these parts.
func of(prio, period int, parts ...api.Part) api.Task {
	return api.Task{Name: "p" + string(rune('a'+prio)), Period: period, Deadline: period, Prio: prio, Cluster: prio % 2, Parts: parts}
}

// set: of two clusters; resources 0 and 2 are at cluster 1, 1 at 0.
func set(tasks ...api.Task) api.Set {
	return api.Set{Protocol: api.Agent, Cores: []int{1, 1}, Homes: []int{1, 0, 1}, Tasks: tasks}
}

// good: tasks of Prio 5, 2, 9, 1, 7, and what they ask for at cluster 1: 3, 2 and 3, 8, none, 6.
func good() api.Set {
	return set(
		of(5, 50, lock(0, 3), run(9), lock(1, 30)),
		of(2, 20, lock(0, 2), lock(2, 3)),
		of(9, 90, run(60), lock(2, 8), lock(0, 4)),
		of(1, 10, sleep(60), run(1)),
		of(7, 70, lock(2, 6), lock(1, 10)),
	)
}

func goodBounds() []int { return []int{40, 12, 80, 9, 60} }

// P14.1: the longest one of those with a greater Prio, at that cluster.
func TestLower(t *testing.T) {
	s := good()
	for _, c := range []struct{ task, cluster, want int }{
		{0, 1, 8}, {0, 0, 10},
		{1, 1, 8}, {1, 0, 30},
		{2, 1, 0}, {2, 0, 0},
		{3, 1, 8}, {3, 0, 30},
		{4, 1, 8}, {4, 0, 0},
		{-1, 1, 0}, {5, 1, 0}, {least, 1, 0}, {most, 1, 0},
		{1, -1, 0}, {1, 2, 0}, {1, least, 0}, {1, most, 0},
	} {
		if got := Lower(s, c.task, c.cluster); got != c.want {
			t.Errorf("P14.1: Lower(%d, %d): %d, not %d", c.task, c.cluster, got, c.want)
		}
	}
}

// P14.1: of each one with a lesser Prio as many jobs as can come, by all that it asks for there.
func TestHigher(t *testing.T) {
	for _, c := range []struct{ task, cluster, window, want int }{
		// Of Prio 2: 5 each, of window and 12 by 20.
		{0, 1, 1, 5}, {0, 1, 8, 5}, {0, 1, 9, 10}, {0, 1, 28, 10}, {0, 1, 29, 15},
		{0, 0, 100, 0}, {3, 1, 100, 0}, {1, 1, 100, 0},
		// Of Prio 5 too: 3 each (at cluster 0: 30), of window and 40 by 50.
		{4, 1, 8, 5 + 3}, {4, 1, 10, 10 + 3}, {4, 1, 11, 10 + 6}, {4, 0, 10, 30}, {4, 0, 11, 60},
		// Of Prio 7 too: 6 each (at cluster 0: 10), of window and 60 by 70.
		{2, 1, 8, 5 + 3 + 6}, {2, 1, 10, 10 + 3 + 6}, {2, 1, 11, 10 + 6 + 12}, {2, 0, 11, 60 + 20},
		{0, 1, 0, 0}, {0, 1, -1, 0}, {0, 1, least, 0},
		{-1, 1, 9, 0}, {5, 1, 9, 0}, {least, 1, 9, 0}, {most, 1, 9, 0},
		{2, -1, 9, 0}, {2, 2, 9, 0}, {2, least, 9, 0}, {2, most, 9, 0},
	} {
		if got := Higher(good(), goodBounds(), c.task, c.cluster, c.window); got != c.want {
			t.Errorf("P14.1: Higher(%d, %d, %d): %d, not %d", c.task, c.cluster, c.window, got, c.want)
		}
	}
}

// P14.1: bounds that are none or great; all together at most MaxTime.
func TestHigherOfBounds(t *testing.T) {
	for _, c := range []struct {
		bounds       []int
		window, want int
	}{
		{[]int{0, 0, 0, 0, 0}, 20, 5 + 3 + 6},
		{[]int{0, 0, 0, 0, 0}, 21, 10 + 3 + 6},
		{[]int{0, -1, 0, 0, 0}, 21, 3 + 6},
		{[]int{least, least, 0, 0, least}, 21, 0},
		{[]int{0, 0, least, least, 0}, 20, 5 + 3 + 6},
		{[]int{-1, 3999999 - 15, -1, -1, -1}, 15, api.MaxTime},
		{[]int{-1, 3999980 - 15, -1, -1, -1}, 15, api.MaxTime - 5},
		{[]int{0, 3999980 - 15, -1, -1, 0}, 15, api.MaxTime},
		{[]int{-1, most, -1, -1, -1}, most, api.MaxTime},
		{[]int{most, most, most, most, most}, most, api.MaxTime},
		{[]int{most, most, most, most, most}, 1, api.MaxTime},
		{[]int{0, 0, 0, 0, 0}, most, api.MaxTime},
	} {
		if got := Higher(good(), c.bounds, 2, 1, c.window); got != c.want {
			t.Errorf("P14.1: Higher of %v in %d: %d, not %d", c.bounds, c.window, got, c.want)
		}
	}
}

// tells: Part tells just that.
func tells(t *testing.T, s api.Set, bounds []int, task, part, want int, ok bool) {
	t.Helper()
	if n, some := Part(s, bounds, task, part); n != want || some != ok {
		t.Errorf("P14.2: Part(%v, %d, %d): %d, %v, not %d, %v", bounds, task, part, n, some, want, ok)
	}
}

// P14.2, P14.3: its Len, one lower one, and all higher ones that come meanwhile.
func TestPart(t *testing.T) {
	alone := set(of(1, 10, lock(0, 3)))
	tells(t, alone, []int{0}, 0, 0, 3, true)
	tells(t, alone, []int{least}, 0, 0, 3, true)
	s := good()
	// 3 and 8: of Prio 2 there come 10 in 11, and 10 in 21.
	tells(t, s, goodBounds(), 0, 0, 21, true)
	// 30 and 10: nobody of a lesser Prio asks at cluster 0.
	tells(t, s, goodBounds(), 0, 2, 40, true)
	tells(t, s, goodBounds(), 1, 0, 10, true)
	tells(t, s, goodBounds(), 1, 1, 11, true)
	// 6 and 8: in 14 16, in 30 15 + 6, in 35 15 + 6.
	tells(t, s, goodBounds(), 4, 0, 35, true)
	// 10: in it 30, in 40 60, in 70 90, in 100 90.
	tells(t, s, goodBounds(), 4, 1, 100, true)
}

// P14.2: the least one is told: by a look at each number.
func TestPartIsTheLeast(t *testing.T) {
	turn := 1
	next := func(n int) int {
		turn = (turn*1103515245 + 12345) % (1 << 31)
		return turn >> 8 % n
	}
	told := 0
	for range 300 {
		s := set()
		var bounds []int
		for prio := range 1 + next(6) {
			x := of(prio+1, 20+next(200), lock(next(3), 1+next(20)), run(1), lock(next(3), 1+next(20)))
			s.Tasks = slices.Insert(s.Tasks, next(len(s.Tasks)+1), x)
			bounds = append(bounds, next(400)-20)
		}
		for task := range s.Tasks {
			want, ok := byLook(s, bounds, task, 0)
			tells(t, s, bounds, task, 0, want, ok)
			if ok {
				told++
			}
		}
	}
	if told < 200 {
		t.Errorf("only %d were told", told)
	}
}

// byLook: the first number of all for which it holds.
func byLook(s api.Set, bounds []int, task, part int) (int, bool) {
	p := s.Tasks[task].Parts[part]
	home := s.Homes[p.Res]
	own := p.Len + Lower(s, task, home)
	for w := own; w <= api.MaxPeriod; w++ {
		if w == own+Higher(s, bounds, task, home, w) {
			return w, true
		}
	}
	return 0, false
}

// P14.2: up to MaxPeriod, and one more.
func TestPartToMaxPeriod(t *testing.T) {
	// The higher one asks for 49 each 50 ticks: that leaves 60 of 3000, and not of less.
	s := set(of(1, 50, lock(0, 49)), of(2, 50, lock(0, 60)))
	tells(t, s, []int{0, 0}, 1, 0, 3000, true)
	tells(t, s, []int{1, 0}, 1, 0, 0, false)
	// The higher one comes so late that 2940 jobs of it, of a tick each, do something in 3000 ticks.
	long := set(of(1, 3000, lock(0, 1)), of(2, 3000, lock(0, 60)))
	tells(t, long, []int{3000 * 2939, 0}, 1, 0, 3000, true)
	tells(t, long, []int{3000 * 2940, 0}, 1, 0, 0, false)
	// The higher one asks for all there is: no window is enough.
	never := set(of(1, 10, lock(0, 10)), of(2, 10, lock(0, 1)))
	tells(t, never, []int{0, 0}, 1, 0, 0, false)
	tells(t, long, []int{most, 0}, 1, 0, 0, false)
	tells(t, long, []int{most, most}, 0, 0, 61, true)
	tells(t, long, []int{-1, 0}, 1, 0, 60, true)
}

// P14.1, P14.2: no such task, no such part, no Lock.
func TestPartOfNone(t *testing.T) {
	for _, c := range [][2]int{
		{-1, 0}, {5, 0}, {least, 0}, {most, 0}, {0, -1}, {0, 3}, {0, least}, {0, most}, {0, 1}, {3, 0}, {3, 1}, {2, 0},
	} {
		tells(t, good(), goodBounds(), c[0], c[1], 0, false)
	}
}

// P14.1, P14.2: the chapter names no protocol: all are told alike.
func TestOfAnyProtocol(t *testing.T) {
	for _, protocol := range []int{api.Fair, api.Agent, api.Token} {
		s := good()
		s.Protocol = protocol
		tells(t, s, goodBounds(), 0, 0, 21, true)
		if Lower(s, 0, 1) != 8 || Higher(s, goodBounds(), 0, 1, 9) != 10 {
			t.Error("P14.1: hangs on the protocol")
		}
	}
}

// P14.1: bounds that aren't as many as tasks; Lower has none.
func TestOfOtherBounds(t *testing.T) {
	for _, bounds := range [][]int{nil, {}, {1}, goodBounds()[:4], append(goodBounds(), 1), make([]int, 100)} {
		tells(t, good(), bounds, 0, 0, 0, false)
		if n := Higher(good(), bounds, 0, 1, 9); n != 0 {
			t.Errorf("P14.1: Higher of %v: %d", bounds, n)
		}
	}
}

// P14.1, P14.2: of a set that task's Check errs nothing is told.
func TestOfErrors(t *testing.T) {
	for what, change := range map[string]func(*api.Set){
		"protocol": func(s *api.Set) { s.Protocol = 0 },
		"cores":    func(s *api.Set) { s.Cores[1] = 0 },
		"home":     func(s *api.Set) { s.Homes[2] = 2 },
		"no homes": func(s *api.Set) { s.Homes = nil },
		"period":   func(s *api.Set) { s.Tasks[4].Period = 0 },
		"twice":    func(s *api.Set) { s.Tasks[4].Prio = 5 },
		"part":     func(s *api.Set) { s.Tasks[4].Parts[0].Kind = 0 },
	} {
		s := good()
		change(&s)
		tells(t, s, goodBounds(), 0, 0, 0, false)
		if Lower(s, 0, 1) != 0 || Higher(s, goodBounds(), 0, 1, 9) != 0 {
			t.Errorf("P14.1: %s: Lower %d, Higher %d", what, Lower(s, 0, 1), Higher(s, goodBounds(), 0, 1, 9))
		}
	}
	tells(t, api.Set{}, nil, 0, 0, 0, false)
}

// DOC.md's rule 3: what is handed in is not changed.
func TestArgumentsStayAsTheyWere(t *testing.T) {
	s, bounds := good(), goodBounds()
	Part(s, bounds, 4, 0)
	Lower(s, 4, 1)
	Higher(s, bounds, 4, 1, 10)
	if !task.Same(s, good()) || !slices.Equal(bounds, goodBounds()) {
		t.Errorf("an argument was changed: %v, %v", s, bounds)
	}
}
