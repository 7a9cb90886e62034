package task

import (
	"math"
	"slices"
	"strings"
	"testing"

	"swingbridge/api"
)

// good: a set that Check tells OK, with all kinds of parts.
func good() api.Set {
	return api.Set{Protocol: api.Token, Cores: []int{1, 3}, Homes: []int{0, 1, 1}, Tasks: []api.Task{
		{Name: "a", Period: 10, Deadline: 10, Prio: 1, Cluster: 0, Parts: []api.Part{{Kind: api.Run, Len: 3}}},
		{Name: "b2", Period: 3000, Deadline: 1, Prio: 1000, Cluster: 1, Parts: []api.Part{
			{Kind: api.Run, Len: 1}, {Kind: api.Sleep, Len: 60}, {Kind: api.Lock, Len: 60, Res: 2}, {Kind: api.Lock, Len: 1}}},
		{Name: "abcdefgh", Period: 1, Deadline: 1, Prio: 5, Cluster: 1, Parts: []api.Part{{Kind: api.Sleep, Len: 1}}},
	}}
}

// checks: Check(s) tells just that.
func checks(t *testing.T, what string, s api.Set, at int, want api.Errno) {
	t.Helper()
	if n, e := Check(s); n != at || e != want {
		t.Errorf("P8.1: %s: %d, %v, not %d, %v", what, n, e, at, want)
	}
}

// P8.1, P8.3: what is as it may be, to its edges.
func TestCheckOK(t *testing.T) {
	checks(t, "good", good(), -1, api.OK)
	for name, change := range map[string]func(*api.Set){
		"fair":          func(s *api.Set) { s.Protocol = api.Fair },
		"agent":         func(s *api.Set) { s.Protocol = api.Agent },
		"all clusters":  func(s *api.Set) { s.Cores = []int{1, 2, 3} },
		"all resources": func(s *api.Set) { s.Homes = []int{0, 1, 0, 1} },
		"all tasks": func(s *api.Set) {
			for _, name := range []string{"d", "e", "f"} {
				s.Tasks = append(s.Tasks, api.Task{Name: name, Period: 1, Deadline: 1, Prio: 100 + int(name[0]), Parts: []api.Part{{Kind: api.Run, Len: 1}}})
			}
		},
		"one cluster": func(s *api.Set) {
			s.Cores, s.Homes, s.Tasks = []int{3}, []int{0}, s.Tasks[:1]
		},
		"one task":     func(s *api.Set) { s.Tasks = s.Tasks[:1] },
		"all parts":    func(s *api.Set) { s.Tasks[0].Parts = slices.Repeat(s.Tasks[0].Parts, api.MaxSegs) },
		"deadline":     func(s *api.Set) { s.Tasks[1].Deadline = 3000 },
		"no resources": func(s *api.Set) { s.Homes, s.Tasks[1].Parts = nil, s.Tasks[1].Parts[:2] },
		"empty homes":  func(s *api.Set) { s.Homes, s.Tasks[1].Parts = []int{}, s.Tasks[1].Parts[:2] },
	} {
		s := good()
		change(&s)
		checks(t, name, s, -1, api.OK)
	}
}

// fault: something wrong in a set, of which task (-1: of none).
type fault struct {
	name   string
	at     int
	e      api.Errno
	change func(*api.Set)
}

// num: faults of a number that may not be any of these.
func num(name string, at int, e api.Errno, get func(*api.Set) *int, bad ...int) []fault {
	var l []fault
	for _, n := range bad {
		l = append(l, fault{name, at, e, func(s *api.Set) { *get(s) = n }})
	}
	return l
}

// frameFaults: those of no task.
func frameFaults() []fault {
	l := num("protocol", -1, api.ErrForm, func(s *api.Set) *int { return &s.Protocol }, 0, 4, -1, math.MaxInt, math.MinInt)
	l = append(l, num("cores", -1, api.ErrPlace, func(s *api.Set) *int { return &s.Cores[0] }, 0, 4, -1, math.MaxInt, math.MinInt)...)
	l = append(l, num("cores of the last", -1, api.ErrPlace, func(s *api.Set) *int { return &s.Cores[1] }, 0, 4)...)
	l = append(l, num("home", -1, api.ErrPlace, func(s *api.Set) *int { return &s.Homes[0] }, -1, 2, math.MaxInt, math.MinInt)...)
	l = append(l, num("home of the last", -1, api.ErrPlace, func(s *api.Set) *int { return &s.Homes[2] }, -1, 2)...)
	return append(l, []fault{
		{"no cluster", -1, api.ErrPlace, func(s *api.Set) { s.Cores = nil }},
		{"no cluster, no homes", -1, api.ErrPlace, func(s *api.Set) { s.Cores, s.Homes = nil, nil }},
		{"clusters", -1, api.ErrPlace, func(s *api.Set) { s.Cores = []int{1, 1, 1, 1} }},
		{"homes", -1, api.ErrPlace, func(s *api.Set) { s.Homes = []int{0, 0, 0, 0, 0} }},
		{"tasks", -1, api.ErrLarge, func(s *api.Set) { s.Tasks = slices.Repeat(s.Tasks, 3)[:7] }},
		{"no task", -1, api.ErrTask, func(s *api.Set) { s.Tasks = nil }},
	}...)
}

// taskFaults: those of the task at, which isn't the first one.
func taskFaults(at int) []fault {
	of := func(get func(*api.Task) *int) func(*api.Set) *int {
		return func(s *api.Set) *int { return get(&s.Tasks[at]) }
	}
	var l []fault
	for _, name := range []string{"", "A", "9a", "abcdefghi", "a b", "a\n"} {
		l = append(l, fault{"name " + name, at, api.ErrForm, func(s *api.Set) { s.Tasks[at].Name = name }})
	}
	l = append(l, num("period", at, api.ErrForm, of(func(t *api.Task) *int { return &t.Period }), 0, -1, 3001, math.MaxInt, math.MinInt)...)
	l = append(l, num("deadline", at, api.ErrForm, of(func(t *api.Task) *int { return &t.Deadline }), 0, -1, 3001, math.MaxInt, math.MinInt)...)
	l = append(l, num("prio", at, api.ErrForm, of(func(t *api.Task) *int { return &t.Prio }), 0, -1, 1001, math.MaxInt, math.MinInt)...)
	l = append(l, num("cluster", at, api.ErrPlace, of(func(t *api.Task) *int { return &t.Cluster }), -1, 2, math.MaxInt, math.MinInt)...)
	l = append(l, num("prio twice", at, api.ErrTwice, of(func(t *api.Task) *int { return &t.Prio }), 1)...)
	l = append(l, fault{"name twice", at, api.ErrTwice, func(s *api.Set) { s.Tasks[at].Name = "a" }})
	parts := [][]api.Part{nil, {}, slices.Repeat([]api.Part{{Kind: api.Run, Len: 1}}, api.MaxSegs+1)}
	for _, p := range []api.Part{
		{Kind: 0, Len: 1}, {Kind: 4, Len: 1}, {Kind: -1, Len: 1}, {Kind: math.MaxInt, Len: 1},
		{Kind: api.Run, Len: 0}, {Kind: api.Run, Len: 61}, {Kind: api.Sleep, Len: -1}, {Kind: api.Sleep, Len: math.MaxInt},
		{Kind: api.Lock, Len: 0}, {Kind: api.Lock, Len: 61}, {Kind: api.Lock, Len: math.MinInt},
		{Kind: api.Run, Len: 1, Res: 1}, {Kind: api.Run, Len: 1, Res: -1}, {Kind: api.Sleep, Len: 1, Res: 1}, {Kind: api.Sleep, Len: 1, Res: -1},
		{Kind: api.Lock, Len: 1, Res: 3}, {Kind: api.Lock, Len: 1, Res: -1}, {Kind: api.Lock, Len: 1, Res: math.MaxInt},
	} {
		ok := api.Part{Kind: api.Run, Len: 1}
		parts = append(parts, []api.Part{p}, []api.Part{p, ok}, []api.Part{ok, ok, p})
	}
	for _, l2 := range parts {
		l = append(l, fault{"parts", at, api.ErrPart, func(s *api.Set) { s.Tasks[at].Parts = l2 }})
	}
	return l
}

// P8.1: each fault is told, and of which task.
func TestCheckFaults(t *testing.T) {
	for _, f := range append(frameFaults(), append(taskFaults(1), taskFaults(2)...)...) {
		s := good()
		f.change(&s)
		checks(t, f.name, s, f.at, f.e)
	}
}

// P8.1: of several faults that of no task is told, or that of the first one.
func TestCheckOrder(t *testing.T) {
	tasks := append(taskFaults(1), taskFaults(2)...)
	for _, f := range append(frameFaults(), tasks...) {
		for _, other := range tasks {
			if f.at >= other.at {
				continue
			}
			s := good()
			other.change(&s)
			f.change(&s)
			checks(t, f.name+" and "+other.name, s, f.at, f.e)
		}
	}
}

// P8.1: of the faults of one task, and of the frame, the one that the chapter names first.
func TestCheckOrderWithin(t *testing.T) {
	prio := func(n int) func(*api.Set) { return func(s *api.Set) { s.Tasks[1].Prio = n } }
	name := func(n string) func(*api.Set) { return func(s *api.Set) { s.Tasks[1].Name = n } }
	cluster := func(s *api.Set) { s.Tasks[1].Cluster = 2 }
	parts := func(s *api.Set) { s.Tasks[1].Parts = nil }
	period := func(s *api.Set) { s.Tasks[1].Period = 0 }
	protocol := func(s *api.Set) { s.Protocol = 0 }
	cores := func(s *api.Set) { s.Cores[1] = 0 }
	homes := func(s *api.Set) { s.Homes[1] = 9 }
	many := func(s *api.Set) { s.Tasks = slices.Repeat(s.Tasks, 3) }
	none := func(s *api.Set) { s.Tasks = nil }
	for _, c := range []struct {
		what    string
		changes []func(*api.Set)
		at      int
		want    api.Errno
	}{
		{"protocol, cores", []func(*api.Set){protocol, cores}, -1, api.ErrForm},
		{"protocol, many", []func(*api.Set){protocol, many}, -1, api.ErrForm},
		{"protocol, none", []func(*api.Set){protocol, none}, -1, api.ErrForm},
		{"cores, many", []func(*api.Set){cores, many}, -1, api.ErrPlace},
		{"cores, none", []func(*api.Set){cores, none}, -1, api.ErrPlace},
		{"homes, many", []func(*api.Set){homes, many}, -1, api.ErrPlace},
		{"homes, none", []func(*api.Set){homes, none}, -1, api.ErrPlace},
		{"homes, parts", []func(*api.Set){homes, parts}, -1, api.ErrPlace},
		{"period, many", []func(*api.Set){period, many}, -1, api.ErrLarge},
		{"period, cluster", []func(*api.Set){period, cluster}, 1, api.ErrForm},
		{"cluster, prio", []func(*api.Set){cluster, prio(0)}, 1, api.ErrForm},
		{"cluster, prio twice", []func(*api.Set){cluster, prio(1)}, 1, api.ErrPlace},
		{"period, name twice", []func(*api.Set){period, name("a")}, 1, api.ErrForm},
		{"cluster, parts", []func(*api.Set){cluster, parts}, 1, api.ErrPlace},
		{"name twice, parts", []func(*api.Set){name("a"), parts}, 1, api.ErrTwice},
		{"a name of one behind", []func(*api.Set){name("abcdefgh")}, 2, api.ErrTwice},
		{"a prio of one behind", []func(*api.Set){prio(5)}, 2, api.ErrTwice},
		{"a name of one behind, parts", []func(*api.Set){name("abcdefgh"), parts}, 1, api.ErrPart},
	} {
		s := good()
		for _, change := range c.changes {
			change(&s)
		}
		checks(t, c.what, s, c.at, c.want)
	}
}

// P8.1: a deadline is held against the period of its own task; what is large ends too.
func TestCheckByHand(t *testing.T) {
	s := good()
	s.Tasks[0].Deadline = 11
	checks(t, "a deadline above its period", s, 0, api.ErrForm)
	s = good()
	s.Tasks[0].Period = 9
	checks(t, "a period below its deadline", s, 0, api.ErrForm)
	checks(t, "nothing", api.Set{}, -1, api.ErrForm)
	s = good()
	s.Tasks = make([]api.Task, 1<<20)
	checks(t, "a great many tasks", s, -1, api.ErrLarge)
	s = good()
	s.Tasks[2].Name = strings.Repeat("a", 1<<20)
	checks(t, "a long name", s, 2, api.ErrForm)
}

// P8.2: each part counts; a nil list and an empty one are the same.
func TestSame(t *testing.T) {
	if !Same(good(), good()) || !Same(api.Set{}, api.Set{Cores: []int{}, Homes: []int{}, Tasks: []api.Task{}}) {
		t.Error("P8.2: sets that are alike aren't")
	}
	if !SameTask(api.Task{}, api.Task{Parts: []api.Part{}}) {
		t.Error("P8.2: tasks that are alike aren't")
	}
	for what, change := range map[string]func(*api.Set){
		"protocol":        func(s *api.Set) { s.Protocol++ },
		"cores":           func(s *api.Set) { s.Cores[1]++ },
		"a cluster less":  func(s *api.Set) { s.Cores = s.Cores[:1] },
		"a cluster more":  func(s *api.Set) { s.Cores = append(s.Cores, 1) },
		"homes":           func(s *api.Set) { s.Homes[2]++ },
		"a home less":     func(s *api.Set) { s.Homes = s.Homes[:2] },
		"a home more":     func(s *api.Set) { s.Homes = append(s.Homes, 0) },
		"a task less":     func(s *api.Set) { s.Tasks = s.Tasks[:2] },
		"a task more":     func(s *api.Set) { s.Tasks = append(s.Tasks, api.Task{}) },
		"another order":   func(s *api.Set) { slices.Reverse(s.Tasks) },
		"name":            func(s *api.Set) { s.Tasks[1].Name = "b3" },
		"period":          func(s *api.Set) { s.Tasks[1].Period++ },
		"deadline":        func(s *api.Set) { s.Tasks[1].Deadline++ },
		"prio":            func(s *api.Set) { s.Tasks[1].Prio++ },
		"cluster":         func(s *api.Set) { s.Tasks[1].Cluster++ },
		"a part less":     func(s *api.Set) { s.Tasks[1].Parts = s.Tasks[1].Parts[:3] },
		"a part more":     func(s *api.Set) { s.Tasks[1].Parts = append(s.Tasks[1].Parts, api.Part{}) },
		"kind of a part":  func(s *api.Set) { s.Tasks[1].Parts[3].Kind++ },
		"len of a part":   func(s *api.Set) { s.Tasks[1].Parts[3].Len++ },
		"res of a part":   func(s *api.Set) { s.Tasks[1].Parts[3].Res++ },
		"parts in a turn": func(s *api.Set) { slices.Reverse(s.Tasks[1].Parts) },
	} {
		a, b := good(), good()
		change(&b)
		if Same(a, b) || Same(b, a) || !Same(b, b) {
			t.Errorf("P8.2: Same: %s doesn't count", what)
		}
		tasks := len(a.Tasks) == len(b.Tasks) && a.Tasks[0].Name == b.Tasks[0].Name && a.Protocol == b.Protocol &&
			slices.Equal(a.Cores, b.Cores) && slices.Equal(a.Homes, b.Homes)
		if tasks && (SameTask(a.Tasks[1], b.Tasks[1]) || SameTask(b.Tasks[1], a.Tasks[1])) {
			t.Errorf("P8.2: SameTask: %s doesn't count", what)
		}
	}
}

// scribble: all that hangs on s is written over, its spare room too.
func scribble(s api.Set) {
	for _, t := range s.Tasks[:cap(s.Tasks)] {
		clear(t.Parts[:cap(t.Parts)])
	}
	clear(s.Cores[:cap(s.Cores)])
	clear(s.Homes[:cap(s.Homes)])
	clear(s.Tasks[:cap(s.Tasks)])
}

// P8.2, DOC.md's rule 3: a copy is alike and shares nothing, with what was handed in or with another copy.
func TestCopy(t *testing.T) {
	for _, s := range []api.Set{good(), {}, {Protocol: -7, Cores: []int{9}, Tasks: []api.Task{{}, {Name: "?", Prio: -1}}}} {
		want := s
		c, other := Copy(s), Copy(s)
		if !Same(c, want) {
			t.Errorf("P8.2: Copy of %v: %v", s, c)
		}
		scribble(other)
		if !Same(c, want) || !Same(s, want) {
			t.Errorf("P8.2: a copy shares with another: %v, %v", c, s)
		}
		scribble(c)
	}
	s := good()
	scribble(Copy(s))
	if !Same(s, good()) {
		t.Errorf("P8.2: a copy shares with what was handed in: %v", s)
	}
	c := Copy(s)
	scribble(s)
	if !Same(c, good()) {
		t.Errorf("P8.2: a copy hangs on what was handed in: %v", c)
	}
}

// DOC.md's rule 3: what is handed in is not changed, the room behind it too.
func TestSetsStayAsTheyWere(t *testing.T) {
	s := good()
	all := s.Tasks
	s.Tasks, s.Cores, s.Homes = all[:2], append(s.Cores, 7)[:2], append(s.Homes, 7)[:3]
	Check(s)
	Same(s, s)
	SameTask(s.Tasks[0], s.Tasks[0])
	Copy(s)
	want := good()
	if s.Cores[:3][2] != 7 || s.Homes[:4][3] != 7 || !SameTask(all[2], want.Tasks[2]) || !slices.EqualFunc(s.Tasks, want.Tasks[:2], SameTask) {
		t.Errorf("a set was changed: %v", s)
	}
}
