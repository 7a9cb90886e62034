package wait

import (
	"math"
	"slices"
	"testing"

	"swingbridge/agent"
	"swingbridge/api"
	"swingbridge/fair"
	"swingbridge/task"
	"swingbridge/token"
)

const (
	most  = math.MaxInt
	least = math.MinInt
)

// parts of each kind.
func run(n int) api.Part       { return api.Part{Kind: api.Run, Len: n} }
func sleep(n int) api.Part     { return api.Part{Kind: api.Sleep, Len: n} }
func lock(res, n int) api.Part { return api.Part{Kind: api.Lock, Len: n, Res: res} }

// of: a task of this Prio, at that cluster, each so many ticks, with these parts.
func of(prio, cluster, period int, parts ...api.Part) api.Task {
	return api.Task{Name: "p" + string(rune('a'+prio)), Period: period, Deadline: period, Prio: prio, Cluster: cluster, Parts: parts}
}

// good: two clusters of a core; resources 0 and 1 are at cluster 0, 2 at 1; the last task has no Lock.
func good(protocol int) api.Set {
	return api.Set{Protocol: protocol, Cores: []int{1, 1}, Homes: []int{0, 0, 1}, Tasks: []api.Task{
		of(1, 0, 50, run(3), lock(0, 4), lock(2, 2)),
		of(2, 1, 60, lock(2, 5), sleep(7)),
		of(3, 1, 90, lock(0, 6), run(1)),
		of(4, 0, 100, run(9), sleep(1)),
	}}
}

func goodBounds() []int { return []int{20, 30, 40, 10} }

// told: of each protocol, task by task, what each part takes.
func told() map[int][][]int {
	return map[int][][]int{
		// The longest Locks are 4, 5, 6.
		api.Fair: {{0, 4 + 5 + 6, 2 + 5 + 6}, {5 + 4 + 6, 0}, {6 + 4 + 5, 0}, {0, 0}},
		// The longest lower one, and one job of each higher one.
		api.Agent: {{0, 4 + 6, 2 + 5}, {5 + 2, 0}, {6 + 4, 0}, {0, 0}},
		// The longest other one; at cluster 1 a round of 11.
		api.Token: {{0, 4 + 6, 2 + 6}, {5 + 6 + 11, 0}, {6 + 5 + 11, 0}, {0, 0}},
	}
}

// tells: the three calls tell just that of that task.
func tells(t *testing.T, s api.Set, bounds []int, task int, want []int) {
	t.Helper()
	sum := 0
	for part, n := range want {
		sum += n
		if got, ok := Part(s, bounds, task, part); got != n || ok != (n != 0) {
			t.Errorf("P16.1: protocol %d: Part(%v, %d, %d): %d, %v, not %d", s.Protocol, bounds, task, part, got, ok, n)
		}
	}
	if all, ok := All(s, bounds, task); !slices.Equal(all, want) || !ok {
		t.Errorf("P16.1: protocol %d: All(%v, %d): %v, %v, not %v", s.Protocol, bounds, task, all, ok, want)
	}
	if n, ok := Sum(s, bounds, task); n != sum || !ok {
		t.Errorf("P16.1: protocol %d: Sum(%v, %d): %d, %v, not %d", s.Protocol, bounds, task, n, ok, sum)
	}
}

// none: All and Sum tell of that task that there is nothing.
func none(t *testing.T, s api.Set, bounds []int, task int) {
	t.Helper()
	if all, ok := All(s, bounds, task); len(all) != 0 || ok {
		t.Errorf("P16.1: protocol %d: All(%v, %d): %v, %v", s.Protocol, bounds, task, all, ok)
	}
	if n, ok := Sum(s, bounds, task); n != 0 || ok {
		t.Errorf("P16.1: protocol %d: Sum(%v, %d): %d, %v", s.Protocol, bounds, task, n, ok)
	}
}

// noPart: Part tells that there is nothing.
func noPart(t *testing.T, s api.Set, bounds []int, task, part int) {
	t.Helper()
	if n, ok := Part(s, bounds, task, part); n != 0 || ok {
		t.Errorf("P16.1: protocol %d: Part(%v, %d, %d): %d, %v", s.Protocol, bounds, task, part, n, ok)
	}
}

// P16.1, P16.2: what a job waits for, by each protocol.
func TestOfEachProtocol(t *testing.T) {
	for protocol, rows := range told() {
		for task, want := range rows {
			tells(t, good(protocol), goodBounds(), task, want)
		}
	}
}

// P16.1: Part is what the layer of the protocol tells, of all tasks and parts there are or aren't.
func TestPartIsThatOfItsLayer(t *testing.T) {
	bounds := []int{45, 30, 40, 10}
	numbers := []int{least, -1, 0, 1, 2, 3, 4, most}
	for _, task := range numbers {
		for _, part := range numbers {
			a, aok := Part(good(api.Fair), bounds, task, part)
			if n, ok := fair.Part(good(api.Fair), task, part); a != n || aok != ok {
				t.Errorf("P16.1: Fair: Part(%d, %d): %d, %v", task, part, a, aok)
			}
			a, aok = Part(good(api.Agent), bounds, task, part)
			if n, ok := agent.Part(good(api.Agent), bounds, task, part); a != n || aok != ok {
				t.Errorf("P16.1: Agent: Part(%d, %d): %d, %v", task, part, a, aok)
			}
			a, aok = Part(good(api.Token), bounds, task, part)
			if n, ok := token.Part(good(api.Token), task, part); a != n || aok != ok {
				t.Errorf("P16.1: Token: Part(%d, %d): %d, %v", task, part, a, aok)
			}
		}
	}
}

// P16.1: the bounds hang on it for Agent alone.
func TestBounds(t *testing.T) {
	// Two jobs of the first one come within 6 ticks and its bound.
	tells(t, good(api.Agent), []int{45, 0, 0, 0}, 1, []int{5 + 2 + 2, 0})
	tells(t, good(api.Agent), []int{-1, 0, 0, 0}, 1, []int{5, 0})
	for _, protocol := range []int{api.Fair, api.Token} {
		for task, want := range told()[protocol] {
			for _, bounds := range [][]int{{0, 0, 0, 0}, {-1, least, most, most}, {most, most, most, most}} {
				tells(t, good(protocol), bounds, task, want)
			}
		}
	}
}

// P16.1: bounds that aren't as many as there are tasks: no Lock is told of; a task without Locks is.
func TestOfOtherManyBounds(t *testing.T) {
	for protocol := range told() {
		for _, bounds := range [][]int{nil, {}, {20}, {20, 30, 40}, {20, 30, 40, 10, 10}} {
			noPart(t, good(protocol), bounds, 0, 1)
			noPart(t, good(protocol), bounds, 1, 0)
			for task := range 3 {
				none(t, good(protocol), bounds, task)
			}
			tells(t, good(protocol), bounds, 3, []int{0, 0})
		}
	}
}

// P16.1: where one Lock has none the task has none, wherever that Lock stands.
func TestOfALockThatHasNone(t *testing.T) {
	s := good(api.Agent)
	late := []int{most, 30, 40, 10}
	noPart(t, s, late, 1, 0)
	none(t, s, late, 1)
	tells(t, s, late, 0, []int{0, 10, 7})
	tells(t, s, late, 3, []int{0, 0})
	// The last task waits for the first one at cluster 0, for nobody at cluster 1.
	s.Tasks[0].Parts = []api.Part{lock(0, 4)}
	s.Tasks[1].Parts = []api.Part{sleep(7)}
	for _, parts := range [][]api.Part{
		{lock(2, 1), lock(0, 1)}, {lock(0, 1), lock(2, 1)}, {run(1), lock(2, 1), lock(0, 1), lock(2, 1), run(1)},
	} {
		s.Tasks[3].Parts = parts
		none(t, s, late, 3)
	}
	s.Tasks[3].Parts = []api.Part{lock(2, 1), lock(2, 2)}
	tells(t, s, late, 3, []int{1, 2})
}

// P16.1: no such task.
func TestOfNoTask(t *testing.T) {
	for protocol := range told() {
		for _, task := range []int{-1, 4, least, most} {
			noPart(t, good(protocol), goodBounds(), task, 0)
			none(t, good(protocol), goodBounds(), task)
		}
	}
}

// P16.1: of a set that task's Check errs nothing is told, also of a task without Locks.
func TestOfErrors(t *testing.T) {
	for protocol := range told() {
		for _, change := range []func(*api.Set){
			func(s *api.Set) { s.Protocol = 0 },
			func(s *api.Set) { s.Protocol = 4 },
			func(s *api.Set) { s.Cores[1] = 4 },
			func(s *api.Set) { s.Homes = nil },
			func(s *api.Set) { s.Tasks[0].Deadline = 51 },
			func(s *api.Set) { s.Tasks[3].Prio = 1 },
			func(s *api.Set) { s.Tasks[3].Parts[1].Kind = 4 },
			func(s *api.Set) { s.Tasks[3].Parts = nil },
		} {
			s := good(protocol)
			change(&s)
			for task := range s.Tasks {
				noPart(t, s, goodBounds(), task, 0)
				none(t, s, goodBounds(), task)
			}
			noPart(t, s, goodBounds(), 0, 1)
		}
	}
	noPart(t, api.Set{}, nil, 0, 0)
	none(t, api.Set{}, nil, 0)
}

// DOC.md's rule 3: what is handed in is not changed; what is told is new memory.
func TestNothingIsShared(t *testing.T) {
	for protocol, rows := range told() {
		s := good(protocol)
		bounds := append(goodBounds(), 77, 77)[:4]
		Part(s, bounds, 0, 1)
		Sum(s, bounds, 0)
		all, _ := All(s, bounds, 0)
		other, _ := All(s, bounds, 0)
		for at := range all[:cap(all)] {
			all[:cap(all)][at] = -9
		}
		if !task.Same(s, good(protocol)) || !slices.Equal(bounds[:6], []int{20, 30, 40, 10, 77, 77}) {
			t.Errorf("protocol %d: what was handed in was changed: %v, %v", protocol, s, bounds[:6])
		}
		if !slices.Equal(other, rows[0]) {
			t.Errorf("protocol %d: an answer was changed: %v", protocol, other)
		}
		tells(t, s, bounds, 0, rows[0])
	}
}
