package fair

import (
	"math"
	"testing"

	"swingbridge/api"
	"swingbridge/task"
)

// parts of each kind.
func run(n int) api.Part       { return api.Part{Kind: api.Run, Len: n} }
func sleep(n int) api.Part     { return api.Part{Kind: api.Sleep, Len: n} }
func lock(res, n int) api.Part { return api.Part{Kind: api.Lock, Len: n, Res: res} }

// of: a set of two clusters whose tasks have these parts.
func of(parts ...[]api.Part) api.Set {
	s := api.Set{Protocol: api.Fair, Cores: []int{1, 2}, Homes: []int{0, 1, 1}}
	for at, l := range parts {
		s.Tasks = append(s.Tasks, api.Task{Name: string(rune('a' + at)), Period: 100, Deadline: 100, Prio: 1 + at, Cluster: at % 2, Parts: l})
	}
	return s
}

// good: one of whose tasks has no Lock.
func good() api.Set {
	return of(
		[]api.Part{lock(0, 3), run(50), lock(1, 8)},
		[]api.Part{run(60), sleep(60)},
		[]api.Part{lock(2, 4), lock(2, 4), lock(0, 1)},
		[]api.Part{sleep(9), lock(1, 60)},
	)
}

// tells: Part tells just that.
func tells(t *testing.T, s api.Set, task, part, want int, ok bool) {
	t.Helper()
	if n, some := Part(s, task, part); n != want || some != ok {
		t.Errorf("P13.1: Part(%d, %d): %d, %v, not %d, %v", task, part, n, some, want, ok)
	}
}

// P13.1, P13.2: its Len, and once the longest Lock of each other task, whatever its resource, cluster or priority.
func TestPart(t *testing.T) {
	s := good()
	for _, c := range []struct{ task, part, want int }{
		{0, 0, 3 + 4 + 60}, {0, 2, 8 + 4 + 60},
		{2, 0, 4 + 8 + 60}, {2, 1, 4 + 8 + 60}, {2, 2, 1 + 8 + 60},
		{3, 1, 60 + 8 + 4},
	} {
		tells(t, s, c.task, c.part, c.want, true)
	}
	two := of([]api.Part{lock(0, 3)}, []api.Part{lock(0, 4)})
	tells(t, two, 0, 0, 7, true)
	tells(t, two, 1, 0, 7, true)
	tells(t, of([]api.Part{run(1), lock(0, 3), lock(1, 5)}), 0, 1, 3, true)
	full := []api.Part{lock(0, 60)}
	for task := range 6 {
		tells(t, of(full, full, full, full, full, full), task, 0, 360, true)
	}
}

// P13.1: the chapter names no protocol: all are told alike.
func TestPartOfAnyProtocol(t *testing.T) {
	for _, protocol := range []int{api.Fair, api.Agent, api.Token} {
		s := good()
		s.Protocol = protocol
		tells(t, s, 0, 0, 67, true)
		if got := Ahead(s, 0); got != 2 {
			t.Errorf("P13.1: Ahead: %d", got)
		}
	}
}

// P13.1: no such task, no such part, no Lock.
func TestPartOfNone(t *testing.T) {
	s := good()
	for _, c := range [][2]int{
		{-1, 0}, {4, 0}, {math.MinInt, 0}, {math.MaxInt, 0},
		{0, -1}, {0, 3}, {3, 2}, {0, math.MinInt}, {0, math.MaxInt},
		{0, 1}, {1, 0}, {1, 1}, {3, 0}, {-1, -1},
	} {
		tells(t, s, c[0], c[1], 0, false)
	}
}

// P13.1: how many other tasks have a Lock; 0 of no such task.
func TestAhead(t *testing.T) {
	s := good()
	for task, want := range map[int]int{0: 2, 1: 3, 2: 2, 3: 2, -1: 0, 4: 0, math.MinInt: 0, math.MaxInt: 0} {
		if got := Ahead(s, task); got != want {
			t.Errorf("P13.1: Ahead(%d): %d, not %d", task, got, want)
		}
	}
	alone := of([]api.Part{lock(0, 3)})
	if got := Ahead(alone, 0); got != 0 {
		t.Errorf("P13.1: Ahead of one alone: %d", got)
	}
}

// P13.1: of a set that task's Check errs nothing is told.
func TestOfErrors(t *testing.T) {
	for what, change := range map[string]func(*api.Set){
		"protocol": func(s *api.Set) { s.Protocol = 4 },
		"cores":    func(s *api.Set) { s.Cores = nil },
		"home":     func(s *api.Set) { s.Homes[1] = 2 },
		"no task":  func(s *api.Set) { s.Tasks = nil },
		"many":     func(s *api.Set) { s.Tasks = make([]api.Task, 7) },
		"deadline": func(s *api.Set) { s.Tasks[3].Deadline = 0 },
		"twice":    func(s *api.Set) { s.Tasks[3].Name = "a" },
		"part":     func(s *api.Set) { s.Tasks[3].Parts[0].Len = 61 },
	} {
		s := good()
		change(&s)
		if n, ok := Part(s, 0, 0); n != 0 || ok {
			t.Errorf("P13.1: %s: Part: %d, %v", what, n, ok)
		}
		if n := Ahead(s, 0); n != 0 {
			t.Errorf("P13.1: %s: Ahead: %d", what, n)
		}
	}
}

// DOC.md's rule 3: what is handed in is not changed.
func TestSetsStayAsTheyWere(t *testing.T) {
	s := good()
	Part(s, 0, 0)
	Ahead(s, 0)
	if !task.Same(s, good()) {
		t.Errorf("a set was changed: %v", s)
	}
}
