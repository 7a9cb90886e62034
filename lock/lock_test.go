package lock

import (
	"cmp"
	"math"
	"math/rand"
	"slices"
	"testing"

	"swingbridge/api"
)

// set: tasks of these Prios and clusters, at clusters of 2, 1 and 3 cores, with two resources at the first one, one at each other one.
func set(protocol int, tasks ...[2]int) api.Set {
	s := api.Set{Protocol: protocol, Cores: []int{2, 1, 3}, Homes: []int{0, 0, 1, 2}}
	for at, t := range tasks {
		s.Tasks = append(s.Tasks, api.Task{Name: "t" + string(rune('0'+at)), Period: 9, Deadline: 9,
			Prio: t[0], Cluster: t[1], Parts: []api.Part{{Kind: api.Run, Len: 1}}})
	}
	return s
}

// six: tasks at all clusters, none of them in order of its Prio.
func six(protocol int) api.Set {
	return set(protocol, [2]int{50, 0}, [2]int{20, 0}, [2]int{60, 1}, [2]int{10, 0}, [2]int{40, 1}, [2]int{30, 2})
}

// asks: Ask tells that.
func asks(t *testing.T, l *Locks, task, res int, want api.Errno) {
	t.Helper()
	if e := l.Ask(task, res); e != want {
		t.Errorf("P23.1: Ask(%d, %d): %v, not %v", task, res, e, want)
	}
}

// grants: Grant tells just these.
func grants(t *testing.T, l *Locks, want ...int) {
	t.Helper()
	if got := l.Grant(); !slices.Equal(got, want) {
		t.Errorf("P23.1: Grant: %v, not %v", got, want)
	}
}

// leaves: Leave tells that.
func leaves(t *testing.T, l *Locks, task int, want api.Errno) {
	t.Helper()
	if e := l.Leave(task); e != want {
		t.Errorf("P23.1: Leave(%d): %v, not %v", task, e, want)
	}
}

// boosts: Boost tells these of tasks 0, 1 and so on; who holds is boosted, and nobody else.
func boosts(t *testing.T, l *Locks, want ...int) {
	t.Helper()
	for task, boost := range want {
		if got := l.Boost(task); got != boost {
			t.Errorf("P23.2: Boost(%d): %d, not %d", task, got, boost)
		}
		if got := l.Holds(task); got != (boost > 0) {
			t.Errorf("P23.2: Holds(%d): %v", task, got)
		}
	}
}

// holders: Holder tells these of resources 0, 1 and so on (-1: none).
func holders(t *testing.T, l *Locks, want ...int) {
	t.Helper()
	for res, holder := range want {
		task, ok := l.Holder(res)
		if ok != (holder >= 0) || task != max(holder, 0) {
			t.Errorf("P23.2: Holder(%d): %d, %v, not %d", res, task, ok, holder)
		}
	}
}

// waits: Waiting tells just these.
func waits(t *testing.T, l *Locks, want ...int) {
	t.Helper()
	if got := l.Waiting(); !slices.Equal(got, want) {
		t.Errorf("P23.2: Waiting: %v, not %v", got, want)
	}
}

// protocols: all that there are.
func protocols() []int { return []int{api.Fair, api.Agent, api.Token} }

// P23.1, P23.3: two ask for one: the first one holds; the other one as soon as that left, by Grant alone.
func TestTwoAsk(t *testing.T) {
	for _, protocol := range protocols() {
		l := New(set(protocol, [2]int{1, 0}, [2]int{2, 0}))
		grants(t, l)
		asks(t, l, 0, 1, api.OK)
		asks(t, l, 1, 1, api.OK)
		boosts(t, l, 0, 0)
		waits(t, l, 0, 1)
		holders(t, l, -1, -1, -1, -1)
		grants(t, l, 0)
		grants(t, l)
		boosts(t, l, 1, 0)
		waits(t, l, 1)
		holders(t, l, -1, 0, -1, -1)
		leaves(t, l, 0, api.OK)
		boosts(t, l, 0, 0)
		waits(t, l, 1)
		holders(t, l, -1, -1, -1, -1)
		grants(t, l, 1)
		waits(t, l)
		holders(t, l, -1, 1, -1, -1)
		leaves(t, l, 1, api.OK)
		holders(t, l, -1, -1, -1, -1)
		grants(t, l)
	}
}

// P23.1: the errors, the one that is named first; what errs changes nothing.
func TestErrors(t *testing.T) {
	for _, protocol := range protocols() {
		l := New(six(protocol))
		for _, task := range []int{math.MinInt, -1, 6, math.MaxInt} {
			for _, res := range []int{math.MinInt, -1, 0, 3, 4, math.MaxInt} {
				asks(t, l, task, res, api.ErrTask)
			}
			leaves(t, l, task, api.ErrNone)
			if l.Holds(task) || l.Boost(task) != 0 {
				t.Errorf("P23.2: task %d holds", task)
			}
		}
		for _, res := range []int{math.MinInt, -1, 4, math.MaxInt} {
			asks(t, l, 0, res, api.ErrPlace)
			if task, ok := l.Holder(res); ok || task != 0 {
				t.Errorf("P23.2: Holder(%d): %d, %v", res, task, ok)
			}
		}
		leaves(t, l, 0, api.ErrNone)
		asks(t, l, 0, 0, api.OK)
		asks(t, l, 0, 4, api.ErrPlace)
		for range 2 {
			for res := range 4 {
				asks(t, l, 0, res, api.ErrTwice)
			}
			leaves(t, l, 1, api.ErrNone)
			l.Grant()
			boosts(t, l, 1, 0)
			holders(t, l, 0, -1, -1, -1)
		}
		leaves(t, l, 0, api.OK)
		leaves(t, l, 0, api.ErrNone)
		asks(t, l, 0, 3, api.OK)
		grants(t, l, 0)
		// Asks that erred got no place.
		if want := 2; protocol != api.Agent && l.Boost(0) != want {
			t.Errorf("P23.2: Boost: %d, not %d", l.Boost(0), want)
		}
	}
}

// P23.1: a set that task's Check errs of has no tasks and no resources.
func TestSetThatErrs(t *testing.T) {
	wrong := six(api.Fair)
	wrong.Tasks[5].Prio = 50
	for _, l := range []*Locks{New(api.Set{}), New(wrong), New(set(api.Token)), New(set(0, [2]int{1, 0})), new(Locks)} {
		asks(t, l, 0, 0, api.ErrTask)
		grants(t, l)
		leaves(t, l, 0, api.ErrNone)
		boosts(t, l, 0, 0)
		holders(t, l, -1, -1)
		waits(t, l)
	}
}

// P23.1: tasks, but no resources.
func TestNoResources(t *testing.T) {
	for _, protocol := range protocols() {
		s := six(protocol)
		s.Homes = nil
		l := New(s)
		asks(t, l, 0, 0, api.ErrPlace)
		grants(t, l)
		holders(t, l, -1)
	}
}

// P23.1, P23.2: Fair: by who asked first; places are counted over all Asks ever.
func TestFair(t *testing.T) {
	l := New(six(api.Fair))
	asks(t, l, 5, 0, api.OK) // place 1
	asks(t, l, 3, 0, api.OK) // 2
	asks(t, l, 4, 2, api.OK) // 3
	asks(t, l, 0, 0, api.OK) // 4
	asks(t, l, 1, 1, api.OK) // 5
	grants(t, l, 1, 4, 5)
	boosts(t, l, 0, 5, 0, 0, 3, 1)
	waits(t, l, 0, 3)
	holders(t, l, 5, 1, 4, -1)
	// One that waits leaves, and asks again: it is behind all.
	leaves(t, l, 3, api.OK)
	waits(t, l, 0)
	asks(t, l, 3, 0, api.OK) // 6
	leaves(t, l, 5, api.OK)
	grants(t, l, 0)
	boosts(t, l, 4, 5, 0, 0, 3, 0)
	leaves(t, l, 0, api.OK)
	grants(t, l, 3)
	boosts(t, l, 0, 5, 0, 6, 3, 0)
}

// P23.1: who comes between a Leave and the Grant doesn't come ahead of those that wait.
func TestGrantAlone(t *testing.T) {
	l := New(six(api.Fair))
	asks(t, l, 0, 0, api.OK)
	grants(t, l, 0)
	asks(t, l, 1, 0, api.OK)
	leaves(t, l, 0, api.OK)
	asks(t, l, 0, 0, api.OK)
	boosts(t, l, 0, 0)
	grants(t, l, 1)
	boosts(t, l, 0, 2)
	waits(t, l, 0)
}

// P23.1, P23.2: Agent: each cluster serves one at a time, of all its resources, the one of least Prio first.
func TestAgent(t *testing.T) {
	l := New(six(api.Agent))
	asks(t, l, 0, 0, api.OK)
	asks(t, l, 2, 0, api.OK)
	asks(t, l, 1, 1, api.OK)
	asks(t, l, 4, 2, api.OK)
	grants(t, l, 1, 4)
	boosts(t, l, 0, 1, 0, 0, 1, 0)
	holders(t, l, -1, 1, 4, -1)
	waits(t, l, 0, 2)
	// A more urgent one waits until the one that is served is done with.
	asks(t, l, 3, 0, api.OK)
	asks(t, l, 5, 3, api.OK)
	grants(t, l, 5)
	leaves(t, l, 1, api.OK)
	grants(t, l, 3)
	boosts(t, l, 0, 0, 0, 1, 1, 1)
	leaves(t, l, 3, api.OK)
	grants(t, l, 0)
	leaves(t, l, 2, api.OK)
	leaves(t, l, 0, api.OK)
	grants(t, l)
	holders(t, l, -1, -1, 4, 5)
}

// P23.1, P23.2: Token: who is in takes a place of its cluster's cores also while it waits.
func TestToken(t *testing.T) {
	// Tasks 0, 1 and 3 are of the cluster of two cores, 2 and 4 of that of one.
	l := New(six(api.Token))
	asks(t, l, 3, 0, api.OK)
	asks(t, l, 1, 0, api.OK)
	asks(t, l, 0, 3, api.OK)
	asks(t, l, 4, 0, api.OK)
	asks(t, l, 2, 2, api.OK)
	// In come 3 and 1, and 4: places by their numbers: 1, 3, 4.
	grants(t, l, 1)
	boosts(t, l, 0, 1, 0, 0, 0, 0)
	waits(t, l, 0, 2, 3, 4)
	holders(t, l, 1, -1, -1, -1)
	asks(t, l, 5, 0, api.OK)
	// 5 comes in behind 4.
	grants(t, l)
	leaves(t, l, 1, api.OK)
	// 0 comes in behind 5; nobody holds what it waits for.
	grants(t, l, 0, 3)
	boosts(t, l, 5, 0, 0, 2, 0, 0)
	leaves(t, l, 3, api.OK)
	grants(t, l, 4)
	leaves(t, l, 4, api.OK)
	grants(t, l, 2, 5)
	boosts(t, l, 5, 0, 6, 0, 0, 4)
	waits(t, l)
}

// P23.1: Token: one that leaves outside, or inside, lets others in its stead, at a Grant alone.
func TestTokenLeave(t *testing.T) {
	l := New(six(api.Token))
	for _, task := range []int{2, 4} {
		asks(t, l, task, 2, api.OK)
	}
	// 2 was not let in yet: it leaves no place behind.
	leaves(t, l, 2, api.OK)
	asks(t, l, 2, 2, api.OK)
	grants(t, l, 4)
	boosts(t, l, 0, 0, 0, 0, 1, 0)
	// 2 leaves outside, and comes again.
	leaves(t, l, 2, api.OK)
	waits(t, l)
	leaves(t, l, 4, api.OK)
	asks(t, l, 4, 0, api.OK)
	asks(t, l, 2, 2, api.OK)
	asks(t, l, 0, 0, api.OK)
	// In come 4 and 0: 0 has the lesser number.
	grants(t, l, 0)
	boosts(t, l, 2, 0, 0, 0, 0, 0)
	// 4 is in and waits: it leaves, and 2 comes in.
	leaves(t, l, 4, api.OK)
	grants(t, l, 2)
	boosts(t, l, 2, 0, 4, 0, 0, 0)
}

// model: the chapter's words, as they stand: the requests in the order in which they were asked.
type model struct {
	set      api.Set
	requests []request
	asks     int
	ins      int
}

type request struct {
	task, res, place int
	in, holds        bool
}

// find: where the request of that task stands (-1: nowhere).
func (m *model) find(task int) int {
	return slices.IndexFunc(m.requests, func(r request) bool { return r.task == task })
}

func (m *model) ask(task, res int) api.Errno {
	switch {
	case task < 0 || task >= len(m.set.Tasks):
		return api.ErrTask
	case res < 0 || res >= len(m.set.Homes):
		return api.ErrPlace
	case m.find(task) >= 0:
		return api.ErrTwice
	}
	m.asks++
	r := request{task: task, res: res, in: true, place: m.asks}
	if m.set.Protocol == api.Token {
		r.in, r.place = false, 0
	}
	m.requests = append(m.requests, r)
	return api.OK
}

func (m *model) leave(task int) api.Errno {
	at := m.find(task)
	if at < 0 {
		return api.ErrNone
	}
	m.requests = slices.Delete(m.requests, at, at+1)
	return api.OK
}

// cluster: that of a request's task.
func (m *model) cluster(r request) int { return m.set.Tasks[r.task].Cluster }

func (m *model) letIn() {
	var entered []int
	for cluster, cores := range m.set.Cores {
		room := cores
		for _, r := range m.requests {
			if r.in && m.cluster(r) == cluster {
				room--
			}
		}
		for at, r := range m.requests {
			if !r.in && m.cluster(r) == cluster && room > 0 {
				m.requests[at].in = true
				entered = append(entered, r.task)
				room--
			}
		}
	}
	slices.Sort(entered)
	for _, task := range entered {
		m.ins++
		m.requests[m.find(task)].place = m.ins
	}
}

// serve: of those requests that are in and of that group one holds, or the one of the least key does from now on.
func (m *model) serve(group func(request) bool, key func(request) int) []int {
	var best []request
	for _, r := range m.requests {
		switch {
		case !group(r):
		case r.holds:
			return nil
		case r.in:
			best = append(best, r)
		}
	}
	if len(best) == 0 {
		return nil
	}
	first := slices.MinFunc(best, func(a, b request) int { return cmp.Compare(key(a), key(b)) })
	m.requests[m.find(first.task)].holds = true
	return []int{first.task}
}

func (m *model) grant() []int {
	var granted []int
	if m.set.Protocol == api.Agent {
		for cluster := range m.set.Cores {
			granted = append(granted, m.serve(
				func(r request) bool { return m.set.Homes[r.res] == cluster },
				func(r request) int { return m.set.Tasks[r.task].Prio })...)
		}
	} else {
		m.letIn()
		for res := range m.set.Homes {
			granted = append(granted, m.serve(
				func(r request) bool { return r.res == res },
				func(r request) int { return r.place })...)
		}
	}
	slices.Sort(granted)
	return granted
}

// same: l tells what the model does, by all calls that only look.
func same(t *testing.T, l *Locks, m *model) {
	t.Helper()
	var waiting []int
	boost, holder := make([]int, len(m.set.Tasks)), make([]int, len(m.set.Homes))
	for res := range holder {
		holder[res] = -1
	}
	for _, r := range m.requests {
		switch {
		case !r.holds:
			waiting = append(waiting, r.task)
		case m.set.Protocol == api.Agent:
			boost[r.task], holder[r.res] = 1, r.task
		default:
			boost[r.task], holder[r.res] = r.place, r.task
		}
	}
	slices.Sort(waiting)
	boosts(t, l, boost...)
	holders(t, l, holder...)
	waits(t, l, waiting...)
}

// P23.1 to P23.3: whatever is asked and left, in whatever order.
func TestAgainstTheWords(t *testing.T) {
	chance := rand.New(rand.NewSource(23))
	for round := range 600 {
		s := set(protocols()[round%3])
		s.Cores = s.Cores[:1+chance.Intn(3)]
		for cluster := range s.Cores {
			s.Cores[cluster] = 1 + chance.Intn(api.MaxCores)
		}
		s.Homes = nil
		for range chance.Intn(api.MaxRes + 1) {
			s.Homes = append(s.Homes, chance.Intn(len(s.Cores)))
		}
		prios := chance.Perm(1000)
		for at := range 1 + chance.Intn(api.MaxTasks) {
			s.Tasks = append(s.Tasks, api.Task{Name: "t" + string(rune('0'+at)), Period: 1, Deadline: 1,
				Prio: 1 + prios[at], Cluster: chance.Intn(len(s.Cores)), Parts: []api.Part{{Kind: api.Run, Len: 1}}})
		}
		l, m := New(s), &model{set: s}
		for step := range 120 {
			task, res := chance.Intn(len(s.Tasks)+1), chance.Intn(len(s.Homes)+1)
			switch chance.Intn(5) {
			case 0, 1:
				asks(t, l, task, res, m.ask(task, res))
			case 2:
				leaves(t, l, task, m.leave(task))
			default:
				grants(t, l, m.grant()...)
			}
			same(t, l, m)
			if t.Failed() {
				t.Fatalf("round %d, step %d: %v", round, step, s)
			}
		}
	}
}

// DOC.md's rule 3: the set is neither changed nor kept; answers are new memory.
func TestNothingIsShared(t *testing.T) {
	for _, protocol := range protocols() {
		s := six(protocol)
		l := New(s)
		clear(s.Cores)
		clear(s.Homes)
		clear(s.Tasks)
		for task := range 6 {
			asks(t, l, task, task%2*2, api.OK)
		}
		waiting := l.Waiting()
		clear(waiting[:cap(waiting)])
		waits(t, l, 0, 1, 2, 3, 4, 5)
		granted := l.Grant()
		clear(granted[:cap(granted)])
		if len(granted) != 2 || len(l.Waiting()) != 4 {
			t.Errorf("P23.1: protocol %d: %d granted, %v wait", protocol, len(granted), l.Waiting())
		}
	}
}

// DOC.md's rule 6: no Locks hang on others.
func TestTwoLocks(t *testing.T) {
	s := six(api.Token)
	a, b := New(s), New(s)
	asks(t, a, 0, 0, api.OK)
	grants(t, a, 0)
	asks(t, b, 1, 0, api.OK)
	grants(t, b, 1)
	holders(t, a, 0)
	holders(t, b, 1)
	boosts(t, b, 0, 1)
}
