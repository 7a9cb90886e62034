package audit

import (
	"math"
	"math/rand"
	"slices"
	"testing"

	"swingbridge/admit"
	"swingbridge/api"
	"swingbridge/canon"
	"swingbridge/exec"
	"swingbridge/legal"
	"swingbridge/wait"
)

const (
	most  = math.MaxInt
	least = math.MinInt
)

// parts of each kind.
func run(n int) api.Part         { return api.Part{Kind: api.Run, Len: n} }
func sleep(n int) api.Part       { return api.Part{Kind: api.Sleep, Len: n} }
func locked(res, n int) api.Part { return api.Part{Kind: api.Lock, Len: n, Res: res} }

// of: a task of this Prio, at that cluster, each so many ticks.
func of(prio, cluster, period int, parts ...api.Part) api.Task {
	return api.Task{Name: "p" + string(rune('a'+prio)), Period: period, Deadline: period, Prio: prio, Cluster: cluster, Parts: parts}
}

// three: at two clusters, of one core and of two; each protocol admits it.
func three(protocol int) api.Set {
	return api.Set{Protocol: protocol, Cores: []int{1, 2}, Homes: []int{0, 1}, Tasks: []api.Task{
		of(2, 0, 60, run(2), locked(1, 2)),
		of(1, 1, 50, locked(0, 3), sleep(2), locked(1, 1)),
		of(3, 0, 90, run(3), locked(1, 4)),
	}}
}

// protocols: all that there are.
func protocols() []int { return []int{api.Fair, api.Agent, api.Token} }

// broken: sets that task's Check errs of, and how.
func broken() ([]api.Set, []api.Errno) {
	twice, none, far := three(api.Fair), three(api.Token), three(api.Agent)
	twice.Tasks[1].Prio = 2
	none.Tasks = nil
	far.Tasks[2].Cluster = 2
	return []api.Set{{}, twice, none, far}, []api.Errno{api.ErrForm, api.ErrTwice, api.ErrTask, api.ErrPlace}
}

// verdict: Analyze's, which must admit s.
func verdict(t *testing.T, s api.Set) api.Verdict {
	t.Helper()
	v, e := admit.Analyze(s)
	if e != api.OK {
		t.Fatalf("Analyze(%v): %v", s, e)
	}
	return v
}

// within: Within tells that.
func within(t *testing.T, s api.Set, v api.Verdict, want bool, jobs ...api.Done) {
	t.Helper()
	if Within(s, v, api.Trace{Jobs: jobs}) != want {
		t.Errorf("P27.1: Within(%v, %v) isn't %v", v, jobs, want)
	}
}

// P27.1: each job against the bound of its task.
func TestWithin(t *testing.T) {
	for _, protocol := range protocols() {
		s, v := three(protocol), api.Verdict{OK: true, Bounds: []int{10, 20, 30}}
		within(t, s, v, true)
		within(t, s, v, true, api.Done{Task: 0, Release: 7, Finish: 17}, api.Done{Task: 1, Finish: 20}, api.Done{Task: 2, Release: 5, Finish: 35})
		for _, c := range []struct {
			d    api.Done
			want bool
		}{
			{api.Done{Task: 0, Release: 7, Finish: 18}, false},
			{api.Done{Task: 1, Release: 7, Finish: 27}, true},
			{api.Done{Task: 1, Release: 7, Finish: 28}, false},
			{api.Done{Task: 2, Release: 7, Finish: 37}, true},
			{api.Done{Task: 2, Release: 7, Finish: 38}, false},
			{api.Done{Task: 2, Release: 7, Finish: 3}, true},
			// No such task, however short.
			{api.Done{Task: 3}, false}, {api.Done{Task: -1}, false}, {api.Done{Task: most}, false}, {api.Done{Task: least}, false},
			// As ints go round.
			{api.Done{Task: 0, Release: least, Finish: most}, true},
			{api.Done{Task: 0, Release: most, Finish: least}, true},
			{api.Done{Task: 0, Release: 0, Finish: most}, false},
			{api.Done{Task: 0, Release: 1, Finish: least}, false},
		} {
			within(t, s, v, c.want, c.d)
			good := api.Done{Task: 0, Release: 0, Finish: 10}
			within(t, s, v, c.want, good, c.d)
			within(t, s, v, c.want, c.d, good)
		}
	}
}

// P27.1: a verdict that isn't OK, or isn't of that set; a set that errs.
func TestWithinErrs(t *testing.T) {
	s := three(api.Fair)
	within(t, s, api.Verdict{Bounds: []int{10, 20, 30}}, false)
	within(t, s, api.Verdict{}, false)
	within(t, s, api.Verdict{OK: true}, false)
	within(t, s, api.Verdict{OK: true, Bounds: []int{10, 20}}, false)
	within(t, s, api.Verdict{OK: true, Bounds: []int{10, 20, 30, 40}}, false)
	// Bounds may be any, and Waits don't count.
	within(t, s, api.Verdict{OK: true, Bounds: []int{-1, 0, most}, Waits: [][]int{{1}}}, true)
	within(t, s, api.Verdict{OK: true, Bounds: []int{-1, 0, most}}, false, api.Done{Task: 0, Release: 4, Finish: 4})
	sets, _ := broken()
	for _, s := range sets {
		within(t, s, api.Verdict{OK: true, Bounds: make([]int, len(s.Tasks))}, false)
	}
}

// waits: Waits tells that.
func waits(t *testing.T, s api.Set, bounds []int, want bool, l ...api.Wait) {
	t.Helper()
	if Waits(s, bounds, api.Trace{Waits: l}) != want {
		t.Errorf("P27.1: protocol %d: Waits(%v, %v) isn't %v", s.Protocol, bounds, l, want)
	}
}

// P27.1: each request against what is told for it.
func TestWaits(t *testing.T) {
	for _, protocol := range protocols() {
		s := three(protocol)
		bounds := verdict(t, s).Bounds
		waits(t, s, bounds, true)
		for task, x := range s.Tasks {
			for part, p := range x.Parts {
				w := api.Wait{Task: task, Part: part, Ask: 5, Got: most, Finish: 5}
				if p.Kind != api.Lock {
					waits(t, s, bounds, false, w)
					continue
				}
				ticks, ok := wait.Part(s, bounds, task, part)
				if !ok {
					t.Fatalf("no wait of %d, %d is told", task, part)
				}
				w.Finish = 5 + ticks
				longer := w
				longer.Finish++
				waits(t, s, bounds, true, w)
				waits(t, s, bounds, true, w, w, w)
				waits(t, s, bounds, false, longer)
				waits(t, s, bounds, false, w, w, longer)
				waits(t, s, bounds, false, longer, w)
			}
		}
	}
}

// P27.1: by hand: two that share a lock wait for one another; Agent: the wait hangs on the bounds.
func TestWaitsByHand(t *testing.T) {
	s := api.Set{Protocol: api.Fair, Cores: []int{1, 1}, Homes: []int{0}, Tasks: []api.Task{
		of(1, 0, 50, locked(0, 3)), of(2, 1, 50, locked(0, 4))}}
	waits(t, s, []int{7, 7}, true, api.Wait{Task: 0, Ask: 1, Finish: 8}, api.Wait{Task: 1, Ask: 10, Finish: 17})
	waits(t, s, []int{7, 7}, false, api.Wait{Task: 0, Ask: 1, Finish: 9})
	s.Protocol = api.Agent
	// Of the second one: its own 4, and the first one's 3 as often as it may come.
	waits(t, s, []int{7, 7}, true, api.Wait{Task: 1, Ask: 0, Finish: 7})
	waits(t, s, []int{7, 7}, false, api.Wait{Task: 1, Ask: 0, Finish: 8})
	waits(t, s, []int{45, 7}, true, api.Wait{Task: 1, Ask: 0, Finish: 10})
	waits(t, s, []int{45, 7}, false, api.Wait{Task: 1, Ask: 0, Finish: 11})
}

// P27.1: requests of which nothing is told.
func TestWaitsOfNone(t *testing.T) {
	for _, protocol := range protocols() {
		s := three(protocol)
		bounds := verdict(t, s).Bounds
		for _, w := range []api.Wait{{Task: 0, Part: 0}, {Task: 1, Part: 1}, {Task: 0, Part: 2}, {Task: 0, Part: -1}, {Task: 3, Part: 1},
			{Task: -1, Part: 1}, {Task: most, Part: 1}, {Task: least, Part: 1}, {Task: 0, Part: most}, {Task: 0, Part: least}} {
			waits(t, s, bounds, false, w)
			waits(t, s, bounds, false, api.Wait{Task: 0, Part: 1, Finish: 2}, w)
		}
		short := api.Wait{Task: 0, Part: 1, Finish: 1}
		waits(t, s, bounds, true, short)
		waits(t, s, bounds[:2], false, short)
		waits(t, s, append(slices.Clone(bounds), 9), false, short)
		waits(t, s, nil, false, short)
		// Where there are no requests none is too long.
		waits(t, s, nil, true)
	}
	sets, _ := broken()
	for _, s := range sets {
		waits(t, s, make([]int, len(s.Tasks)), false, api.Wait{Task: 0, Part: 1, Finish: 1})
	}
	// One that comes to no end, as far as can be told.
	full := api.Set{Protocol: api.Agent, Cores: []int{2}, Homes: []int{0}, Tasks: []api.Task{
		of(1, 0, 5, locked(0, 5)), of(2, 0, 50, locked(0, 1))}}
	waits(t, full, []int{5, 50}, false, api.Wait{Task: 1, Finish: 1})
}

// judges: Judge tells that.
func judges(t *testing.T, s api.Set, b []byte, n int, want bool, e api.Errno) {
	t.Helper()
	if ok, got := Judge(s, b, n); ok != want || got != e {
		t.Errorf("P27.2: Judge(%v, %v, %d): %v, %v, not %v, %v", s, b, n, ok, got, want, e)
	}
}

// P27.2: the example; any n.
func TestJudge(t *testing.T) {
	for _, protocol := range protocols() {
		alone := api.Set{Protocol: protocol, Cores: []int{1}, Tasks: []api.Task{of(1, 0, 3, run(3))}}
		for _, n := range []int{least, -1, 0, 1, 2, 3, 500, api.MaxTicks, api.MaxTicks + 1, most} {
			judges(t, alone, nil, n, true, api.OK)
			judges(t, three(protocol), []byte{1, 0, 7, 200}, n, true, api.OK)
		}
	}
}

// P27.2: Analyze's errors.
func TestJudgeErrs(t *testing.T) {
	sets, errors := broken()
	for at, s := range sets {
		for _, n := range []int{-1, 0, 9, most} {
			judges(t, s, []byte{1}, n, false, errors[at])
		}
	}
	late := three(api.Fair)
	late.Tasks[2].Deadline = 5
	judges(t, late, nil, 9, false, api.ErrLate)
	// 2 more each round, and never settled.
	judges(t, api.Set{Protocol: api.Fair, Cores: []int{1}, Tasks: []api.Task{of(1, 0, 1, run(1)), of(2, 0, 3000, run(1))}},
		nil, 9, false, api.ErrCap)
}

// P27.2: what a run that Judge refuses would be like: late, or too long at a lock, or not right.
func TestRefused(t *testing.T) {
	for _, protocol := range protocols() {
		s := three(protocol)
		v := verdict(t, s)
		ticks, _ := wait.Part(s, v.Bounds, 0, 1)
		good := api.Trace{Ticks: 99, Jobs: []api.Done{{Task: 2, Finish: v.Bounds[2]}}, Waits: []api.Wait{{Task: 0, Part: 1, Finish: ticks}}}
		late, long, wrong := good, good, good
		late.Jobs = []api.Done{{Task: 2, Finish: v.Bounds[2] + 1}}
		long.Waits = []api.Wait{{Task: 0, Part: 1, Finish: ticks + 1}}
		wrong.Slots = []api.Slot{{Time: 99}}
		if !right(s, v, good) || right(s, v, late) || right(s, v, long) || right(s, v, wrong) {
			t.Errorf("P27.2: protocol %d: %v, %v, %v, %v", protocol, right(s, v, good), right(s, v, late), right(s, v, long), right(s, v, wrong))
		}
	}
}

// meeting: a set, and a tape, as chance has them; few ticks each, so that they meet.
func meeting(chance *rand.Rand, protocol int) (api.Set, []byte) {
	s := api.Set{Protocol: protocol}
	for range 1 + chance.Intn(api.MaxClusters) {
		s.Cores = append(s.Cores, 1+chance.Intn(api.MaxCores))
	}
	for range 1 + chance.Intn(api.MaxRes) {
		s.Homes = append(s.Homes, chance.Intn(len(s.Cores)))
	}
	room := []int{30, 60, 150, 400}[chance.Intn(4)]
	for prio := range 1 + chance.Intn(api.MaxTasks) {
		var parts []api.Part
		for range 1 + chance.Intn(4) {
			p := api.Part{Kind: 1 + chance.Intn(3), Len: 1 + chance.Intn(6)}
			if p.Kind == api.Lock {
				p.Res = chance.Intn(len(s.Homes))
			}
			parts = append(parts, p)
		}
		s.Tasks = append(s.Tasks, of(prio+1, chance.Intn(len(s.Cores)), 5+chance.Intn(room), parts...))
	}
	chance.Shuffle(len(s.Tasks), func(a, b int) { s.Tasks[a], s.Tasks[b] = s.Tasks[b], s.Tasks[a] })
	b := make([]byte, chance.Intn(40))
	chance.Read(b)
	return s, b
}

// P27.2, P27.3, P40.1 to P40.4: who is admitted is never late; no request takes longer than is told, by Fair and Token in any set.
func TestNeverLate(t *testing.T) {
	chance := rand.New(rand.NewSource(27))
	admitted, waited := 0, 0
	for round := range 3000 {
		s, b := meeting(chance, protocols()[round%3])
		x, e := exec.New(s, b)
		if e != api.OK {
			t.Fatalf("New: %v", e)
		}
		x.Run(300)
		tr := x.Trace()
		if !legal.Check(s, tr) {
			t.Errorf("P40.1: %v, %v", s, b)
		}
		v, e := admit.Analyze(s)
		judges(t, s, b, 300, e == api.OK, e)
		if e == api.OK {
			admitted++
			if !Within(s, v, tr) || !Waits(s, v.Bounds, tr) {
				t.Errorf("P27.3: %v, %v: %v", s, b, v)
			}
			for _, d := range tr.Jobs {
				if d.Finish-d.Release > s.Tasks[d.Task].Deadline {
					t.Errorf("P40.4: %v: %v, %v", d, s, b)
				}
			}
		}
		if s.Protocol != api.Agent {
			waited += len(tr.Waits)
			waits(t, s, make([]int, len(s.Tasks)), true, tr.Waits...)
		}
		if t.Failed() {
			t.FailNow()
		}
	}
	if admitted < 500 || waited < 5000 {
		t.Errorf("only %d admitted, %d waited", admitted, waited)
	}
}

// P40.6: the verdict doesn't hang on how the tasks stand.
func TestOrderDoesNotCount(t *testing.T) {
	chance := rand.New(rand.NewSource(6))
	for round := range 300 {
		s, b := meeting(chance, protocols()[round%3])
		_, e := admit.Analyze(s)
		for by := range s.Tasks {
			judges(t, canon.Move(s, by), b, 20, e == api.OK, e)
		}
	}
}

// P27.1: a Trace as long as one may be is looked at in time.
func TestLongTrace(t *testing.T) {
	s := three(api.Agent)
	v := verdict(t, s)
	var tr api.Trace
	for range 200000 {
		tr.Waits = append(tr.Waits, api.Wait{Task: 0, Part: 1, Ask: 3, Finish: 5}, api.Wait{Task: 2, Part: 1, Ask: 3, Finish: 7})
		tr.Jobs = append(tr.Jobs, api.Done{Task: 2, Release: 5, Finish: 9})
	}
	if !Waits(s, v.Bounds, tr) || !Within(s, v, tr) {
		t.Errorf("P27.1: it isn't within")
	}
}

// DOC.md's rule 3: nothing that is handed in is changed.
func TestNothingIsChanged(t *testing.T) {
	s := three(api.Token)
	v := verdict(t, s)
	bounds, b := slices.Clone(v.Bounds), []byte{3, 1, 4}
	tr := api.Trace{Jobs: []api.Done{{Task: 1, Finish: 9}}, Waits: []api.Wait{{Task: 0, Part: 1, Finish: 3}}}
	Within(s, v, tr)
	Waits(s, v.Bounds, tr)
	Judge(s, b, 50)
	if !slices.Equal(v.Bounds, bounds) || !slices.Equal(b, []byte{3, 1, 4}) || tr.Jobs[0].Finish != 9 || tr.Waits[0].Finish != 3 {
		t.Errorf("what was handed in was changed: %v, %v, %v", v, b, tr)
	}
}
