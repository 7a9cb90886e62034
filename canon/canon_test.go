package canon

import (
	"math"
	"slices"
	"testing"

	"swingbridge/api"
	"swingbridge/task"
)

// of: a set whose tasks have these priorities, and are told apart by their names.
func of(prios ...int) api.Set {
	s := api.Set{Protocol: api.Agent, Cores: []int{1, 2}, Homes: []int{1, 0}}
	for at, prio := range prios {
		s.Tasks = append(s.Tasks, api.Task{Name: name(at), Period: 10 + at, Deadline: 5, Prio: prio, Cluster: at,
			Parts: []api.Part{{Kind: api.Run, Len: at}, {Kind: api.Lock, Len: 3, Res: 1}}})
	}
	return s
}

func name(at int) string { return string(rune('a' + at)) }

// names: those of the tasks, in order.
func names(s api.Set) string {
	all := ""
	for _, t := range s.Tasks {
		all += t.Name
	}
	return all
}

// picked: s with its tasks in that order.
func picked(s api.Set, order []int) api.Set {
	var tasks []api.Task
	for _, at := range order {
		tasks = append(tasks, s.Tasks[at])
	}
	s.Tasks = tasks
	return s
}

// P10.1: by Prio, of one Prio as they stand; of sets that task's Check errs too.
func TestOrderAndCanon(t *testing.T) {
	for _, c := range []struct {
		prios, want []int
	}{
		{nil, nil},
		{[]int{7}, []int{0}},
		{[]int{5, 2}, []int{1, 0}},
		{[]int{2, 5}, []int{0, 1}},
		{[]int{3, 1, 2}, []int{1, 2, 0}},
		{[]int{4, 4, 4}, []int{0, 1, 2}},
		{[]int{5, 1, 5, 1, 3}, []int{1, 3, 4, 0, 2}},
		{[]int{0, math.MinInt, math.MaxInt, -1}, []int{1, 3, 0, 2}},
		{[]int{8, 7, 6, 5, 4, 3, 2, 1}, []int{7, 6, 5, 4, 3, 2, 1, 0}},
	} {
		s := of(c.prios...)
		if got := Order(s); !slices.Equal(got, c.want) {
			t.Errorf("P10.1: Order of %v: %v, not %v", c.prios, got, c.want)
		}
		if got := Canon(s); !task.Same(got, picked(s, c.want)) {
			t.Errorf("P10.1: Canon of %v: %v", c.prios, got)
		}
	}
}

// P10.1: the one at by first, whose rest is taken from 0 on; those behind it, then those ahead.
func TestMove(t *testing.T) {
	for _, c := range []struct {
		tasks, by int
		want      string
	}{
		{0, 0, ""}, {0, 1, ""}, {0, -1, ""}, {0, math.MinInt, ""},
		{1, 0, "a"}, {1, 1, "a"}, {1, -5, "a"}, {1, math.MaxInt, "a"}, {1, math.MinInt, "a"},
		{3, 0, "abc"}, {3, 1, "bca"}, {3, 2, "cab"}, {3, 3, "abc"}, {3, 4, "bca"}, {3, 300, "abc"},
		{3, -1, "cab"}, {3, -2, "bca"}, {3, -3, "abc"}, {3, -4, "cab"},
		// By 3 these leave 1; by 5: 2 and, from 0 on, 2.
		{3, math.MaxInt, "bca"}, {3, math.MinInt, "bca"},
		{5, math.MaxInt, "cdeab"}, {5, math.MinInt, "cdeab"},
		{6, 5, "fabcde"}, {8, 3, "defghabc"},
	} {
		s := of(make([]int, c.tasks)...)
		got := Move(s, c.by)
		if names(got) != c.want {
			t.Errorf("P10.1: Move of %d by %d: %s, not %s", c.tasks, c.by, names(got), c.want)
		}
		var order []int
		for _, n := range names(got) {
			order = append(order, int(n-'a'))
		}
		if !task.Same(got, picked(s, order)) {
			t.Errorf("P10.1: Move of %d by %d: %v", c.tasks, c.by, got)
		}
	}
}

// orders: all orders of the numbers below n.
func orders(n int) [][]int {
	if n == 0 {
		return [][]int{nil}
	}
	var all [][]int
	for _, l := range orders(n - 1) {
		for at := range n {
			all = append(all, slices.Insert(slices.Clone(l), at, n-1))
		}
	}
	return all
}

// P10.2: whatever the order, and wherever it is turned to: one form.
func TestOneForm(t *testing.T) {
	s := of(20, 30, 10, 50, 40)
	want := Canon(s)
	if names(want) != "cabed" {
		t.Errorf("P10.1: %s", names(want))
	}
	for _, order := range orders(5) {
		for by := range 5 {
			if got := Canon(Move(picked(s, order), by)); !task.Same(got, want) {
				t.Fatalf("P10.2: %v, by %d: %v", order, by, got)
			}
		}
	}
	if !task.Same(Canon(want), want) {
		t.Errorf("P10.2: the form of the form: %v", Canon(want))
	}
}

// P10.1: a great set comes back too.
func TestGreatSets(t *testing.T) {
	s := api.Set{Tasks: make([]api.Task, 100000)}
	for at := range s.Tasks {
		s.Tasks[at].Prio = at * 7919 % 1000
	}
	order := Order(s)
	for i := 1; i < len(order); i++ {
		a, b := s.Tasks[order[i-1]].Prio, s.Tasks[order[i]].Prio
		if a > b || a == b && order[i-1] > order[i] {
			t.Fatalf("P10.1: %d ahead of %d", order[i-1], order[i])
		}
	}
	if got := Move(s, -1); got.Tasks[0].Prio != s.Tasks[99999].Prio || len(got.Tasks) != 100000 {
		t.Error("P10.1: Move of a great set")
	}
}

// scribble: all that hangs on s is written over, its spare room too.
func scribble(s api.Set) {
	for _, t := range s.Tasks[:cap(s.Tasks)] {
		clear(t.Parts[:cap(t.Parts)])
	}
	clear(s.Cores[:cap(s.Cores)])
	clear(s.Homes[:cap(s.Homes)])
	clear(s.Tasks[:cap(s.Tasks)])
}

// P10.1, DOC.md's rule 3: slices of their own: what is handed in stays, and no answer lies on another.
func TestAnswersAreNew(t *testing.T) {
	for what, call := range map[string]func(api.Set) api.Set{
		"Canon":  Canon,
		"Move":   func(s api.Set) api.Set { return Move(s, 1) },
		"Move 0": func(s api.Set) api.Set { return Move(s, 0) },
	} {
		for _, prios := range [][]int{{1, 2, 3}, {3, 1, 2}} {
			s := of(prios...)
			one, two := call(s), call(s)
			want := call(of(prios...))
			scribble(two)
			if !task.Same(one, want) || !task.Same(s, of(prios...)) {
				t.Errorf("P10.1: %s: an answer shares: %v, %v", what, one, s)
			}
			scribble(s)
			if !task.Same(one, want) {
				t.Errorf("P10.1: %s: an answer hangs on its set: %v", what, one)
			}
		}
	}
	s := of(3, 1, 2)
	one, two := Order(s), Order(s)
	clear(two[:cap(two)])
	if !slices.Equal(one, []int{1, 2, 0}) || !task.Same(s, of(3, 1, 2)) {
		t.Errorf("P10.1: Order: an answer shares: %v, %v", one, s)
	}
}
