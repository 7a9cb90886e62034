package exec

import (
	"math"
	"math/rand"
	"slices"
	"testing"

	"swingbridge/api"
	"swingbridge/lock"
	"swingbridge/tape"
	"swingbridge/turn"
)

// parts of each kind.
func run(n int) api.Part         { return api.Part{Kind: api.Run, Len: n} }
func sleep(n int) api.Part       { return api.Part{Kind: api.Sleep, Len: n} }
func locked(res, n int) api.Part { return api.Part{Kind: api.Lock, Len: n, Res: res} }

// of: a task of this Prio, at that cluster, of a Period that is over late.
func of(prio, cluster int, parts ...api.Part) api.Task {
	return api.Task{Name: "p" + string(rune('a'+prio)), Period: 3000, Deadline: 3000, Prio: prio, Cluster: cluster, Parts: parts}
}

// every: t, each so many ticks.
func every(period int, t api.Task) api.Task {
	t.Period, t.Deadline = period, period
	return t
}

// set: two clusters, of one and of two cores; two resources at the first one, one at the second one.
func set(protocol int, tasks ...api.Task) api.Set {
	return api.Set{Protocol: protocol, Cores: []int{1, 2}, Homes: []int{0, 0, 1}, Tasks: tasks}
}

// protocols: all that there are.
func protocols() []int { return []int{api.Fair, api.Agent, api.Token} }

// made: New's, which must not err.
func made(t *testing.T, s api.Set, b ...byte) *Exec {
	t.Helper()
	x, e := New(s, b)
	if x == nil || e != api.OK {
		t.Fatalf("P24.1: New(%v): %v", s, e)
	}
	return x
}

// steps: so many Steps, none of which errs.
func steps(t *testing.T, x *Exec, n int) {
	t.Helper()
	for range n {
		now := x.Now()
		if e := x.Step(); e != api.OK || x.Now() != now+1 {
			t.Fatalf("P24.2: Step at %d: %v, then it is %d", now, e, x.Now())
		}
	}
}

// phases: of tasks 0, 1 and so on.
func phases(t *testing.T, x *Exec, want ...int) {
	t.Helper()
	for task, phase := range want {
		if got := x.Phase(task); got != phase {
			t.Errorf("P24.3: at %d, Phase(%d): %d, not %d", x.Now(), task, got, phase)
		}
	}
}

// traces: just these; slots are of one tick each row: cluster, task, and 1 in its lock.
func traces(t *testing.T, x *Exec, slots [][][3]int, jobs []api.Done, waits []api.Wait) {
	t.Helper()
	var want []api.Slot
	for time, row := range slots {
		for _, s := range row {
			want = append(want, api.Slot{Time: time, Cluster: s[0], Task: s[1], Held: s[2] == 1})
		}
	}
	got := x.Trace()
	if got.Ticks != x.Now() {
		t.Errorf("P24.3: Ticks %d at %d", got.Ticks, x.Now())
	}
	if !slices.Equal(got.Slots, want) {
		t.Errorf("P24.3: Slots %v, not %v", got.Slots, want)
	}
	if !slices.Equal(got.Jobs, jobs) {
		t.Errorf("P24.3: Jobs %v, not %v", got.Jobs, jobs)
	}
	if !slices.Equal(got.Waits, waits) {
		t.Errorf("P24.3: Waits %v, not %v", got.Waits, waits)
	}
}

// P24.1 to P24.3: the example.
func TestOneRun(t *testing.T) {
	for _, protocol := range protocols() {
		x := made(t, set(protocol, of(1, 0, run(2))))
		traces(t, x, nil, nil, nil)
		phases(t, x, api.Idle, 0)
		steps(t, x, 1)
		phases(t, x, api.Ready, 0)
		steps(t, x, 1)
		phases(t, x, api.Idle, 0)
		slots := [][][3]int{{{0, 0, 0}}, {{0, 0, 0}}}
		done := []api.Done{{Task: 0, Release: 0, Finish: 2}}
		traces(t, x, slots, done, nil)
		steps(t, x, 2998)
		traces(t, x, slots, done, nil)
		steps(t, x, 2)
		if got := x.Trace(); len(got.Slots) != 4 || got.Jobs[1] != (api.Done{Task: 0, Release: 3000, Finish: 3002}) {
			t.Errorf("P24.2: at %d: %v", x.Now(), got)
		}
	}
}

// P24.1: what task's Check tells; nothing beside it.
func TestNewErrs(t *testing.T) {
	twice := set(api.Fair, of(1, 0, run(1)), of(1, 0, run(1)))
	for _, c := range []struct {
		s    api.Set
		want api.Errno
	}{
		{api.Set{}, api.ErrForm},
		{api.Set{Protocol: api.Fair}, api.ErrPlace},
		{set(api.Fair), api.ErrTask},
		{set(api.Fair, make([]api.Task, 7)...), api.ErrLarge},
		{twice, api.ErrTwice},
		{set(api.Token, of(1, 0, locked(3, 1))), api.ErrPart},
	} {
		if x, e := New(c.s, []byte{1}); x != nil || e != c.want {
			t.Errorf("P24.1: New(%v): %v, %v, not %v", c.s, x, e, c.want)
		}
	}
}

// P24.2: a job comes as soon as the tape lets it, once the last one is over and its Period too.
func TestReleases(t *testing.T) {
	// Picks: 0: none. 1: a job; its Run takes 1 + 4 % 2. While its Period isn't over nothing is Picked.
	// Then 2: none; 5: a job, of 1 + 0 % 2.
	x := made(t, set(api.Fair, every(5, of(1, 0, run(2)))), 0, 1, 4, 2, 5, 0)
	steps(t, x, 9)
	traces(t, x, [][][3]int{{}, {{0, 0, 0}}, {}, {}, {}, {}, {}, {{0, 0, 0}}}, []api.Done{{Task: 0, Release: 1, Finish: 2}, {Task: 0, Release: 7, Finish: 8}}, nil)
}

// P24.2: one that is late has its next job in the tick behind its last one, however long ago its Period was over.
func TestLateReleases(t *testing.T) {
	x := made(t, set(api.Fair, every(2, of(1, 0, sleep(5)))))
	steps(t, x, 17)
	traces(t, x, nil, []api.Done{{Task: 0, Release: 0, Finish: 5}, {Task: 0, Release: 5, Finish: 10}, {Task: 0, Release: 10, Finish: 15}}, nil)
	phases(t, x, api.Asleep)
	// A Period that is just over when the job is.
	x = made(t, set(api.Fair, every(3, of(1, 0, sleep(3)))))
	steps(t, x, 7)
	traces(t, x, nil, []api.Done{{Task: 0, Release: 0, Finish: 3}, {Task: 0, Release: 3, Finish: 6}}, nil)
}

// P24.2, P24.3: Sleep ticks by itself; part by part, and phase by phase.
func TestPhases(t *testing.T) {
	x := made(t, set(api.Fair, of(1, 0, run(1), sleep(2), locked(0, 2), locked(0, 1), sleep(1), run(1))))
	phases(t, x, api.Idle)
	for _, want := range []int{api.Asleep, api.Asleep, api.Queued, api.Held, api.Queued, api.Asleep, api.Ready, api.Idle} {
		steps(t, x, 1)
		phases(t, x, want)
	}
	traces(t, x,
		[][][3]int{{{0, 0, 0}}, {}, {}, {{0, 0, 1}}, {{0, 0, 1}}, {{0, 0, 1}}, {}, {{0, 0, 0}}},
		[]api.Done{{Task: 0, Release: 0, Finish: 8}},
		[]api.Wait{{Task: 0, Part: 2, Ask: 3, Got: 3, Finish: 5}, {Task: 0, Part: 3, Ask: 5, Got: 5, Finish: 6}})
	for _, task := range []int{math.MinInt, -1, 1, 6, math.MaxInt} {
		if got := x.Phase(task); got != 0 {
			t.Errorf("P24.3: Phase(%d): %d", task, got)
		}
	}
}

// P24.2: as many as there are cores run, by Prio; of several clusters in order.
func TestCores(t *testing.T) {
	for _, protocol := range protocols() {
		x := made(t, set(protocol, of(9, 1, run(2)), of(3, 0, run(1)), of(4, 1, run(1)), of(2, 0, run(1)), of(6, 1, run(3))))
		steps(t, x, 1)
		phases(t, x, api.Ready, api.Ready, api.Idle, api.Idle, api.Ready)
		steps(t, x, 3)
		traces(t, x, [][][3]int{
			{{0, 3, 0}, {1, 2, 0}, {1, 4, 0}},
			{{0, 1, 0}, {1, 4, 0}, {1, 0, 0}},
			{{1, 4, 0}, {1, 0, 0}},
		}, []api.Done{{Task: 2, Release: 0, Finish: 1}, {Task: 3, Release: 0, Finish: 1}, {Task: 1, Release: 0, Finish: 2},
			{Task: 0, Release: 0, Finish: 3}, {Task: 4, Release: 0, Finish: 3}}, nil)
	}
}

// P24.2: Fair: who holds runs ahead of all that don't, by its place in the line.
func TestFair(t *testing.T) {
	x := made(t, set(api.Fair,
		of(1, 0, sleep(1), run(1)),
		of(8, 0, locked(0, 2), run(1)),
		of(7, 0, sleep(1), locked(1, 1)),
		of(6, 1, locked(0, 1))))
	steps(t, x, 1)
	phases(t, x, api.Ready, api.Held, api.Queued, api.Queued)
	steps(t, x, 1)
	phases(t, x, api.Ready, api.Ready, api.Held, api.Queued)
	steps(t, x, 3)
	traces(t, x,
		[][][3]int{{{0, 1, 1}}, {{0, 1, 1}}, {{0, 2, 1}, {1, 3, 1}}, {{0, 0, 0}}, {{0, 1, 0}}},
		[]api.Done{{Task: 2, Release: 0, Finish: 3}, {Task: 3, Release: 0, Finish: 3}, {Task: 0, Release: 0, Finish: 4}, {Task: 1, Release: 0, Finish: 5}},
		[]api.Wait{{Task: 1, Part: 0, Ask: 0, Got: 0, Finish: 2}, {Task: 2, Part: 1, Ask: 1, Got: 1, Finish: 3}, {Task: 3, Part: 0, Ask: 0, Got: 2, Finish: 3}})
}

// P24.2: Agent: who holds runs at the resource's home, ahead of that cluster's own tasks, wherever it comes from.
func TestAgent(t *testing.T) {
	x := made(t, set(api.Agent,
		of(1, 0, run(3)),
		of(2, 1, locked(0, 2), run(1)),
		of(3, 1, locked(2, 2)),
		of(4, 1, run(2)),
		of(5, 0, locked(1, 1))))
	steps(t, x, 1)
	// 4 waits for the agent that serves 1.
	phases(t, x, api.Ready, api.Held, api.Held, api.Ready, api.Queued)
	steps(t, x, 5)
	traces(t, x, [][][3]int{
		{{0, 1, 1}, {1, 2, 1}, {1, 3, 0}},
		{{0, 1, 1}, {1, 2, 1}, {1, 3, 0}},
		{{0, 4, 1}, {1, 1, 0}},
		{{0, 0, 0}},
		{{0, 0, 0}},
		{{0, 0, 0}},
	}, []api.Done{{Task: 2, Release: 0, Finish: 2}, {Task: 3, Release: 0, Finish: 2}, {Task: 1, Release: 0, Finish: 3},
		{Task: 4, Release: 0, Finish: 3}, {Task: 0, Release: 0, Finish: 6}},
		[]api.Wait{{Task: 1, Part: 0, Ask: 0, Got: 0, Finish: 2}, {Task: 2, Part: 0, Ask: 0, Got: 0, Finish: 2}, {Task: 4, Part: 0, Ask: 0, Got: 2, Finish: 3}})
}

// P24.2: Token: of a cluster as many requests as it has cores are let in; these hold by their places.
func TestToken(t *testing.T) {
	x := made(t, set(api.Token,
		of(9, 0, locked(0, 2)),
		of(1, 0, locked(1, 1)),
		of(5, 1, locked(0, 1)),
		of(4, 1, run(1), locked(2, 1))))
	steps(t, x, 2)
	// 1 stands outside though nobody holds what it asked for.
	phases(t, x, api.Idle, api.Queued, api.Queued, api.Idle)
	steps(t, x, 1)
	traces(t, x, [][][3]int{
		{{0, 0, 1}, {1, 3, 0}},
		{{0, 0, 1}, {1, 3, 1}},
		{{0, 1, 1}, {1, 2, 1}},
	}, []api.Done{{Task: 0, Release: 0, Finish: 2}, {Task: 3, Release: 0, Finish: 2}, {Task: 1, Release: 0, Finish: 3}, {Task: 2, Release: 0, Finish: 3}},
		[]api.Wait{{Task: 0, Part: 0, Ask: 0, Got: 0, Finish: 2}, {Task: 3, Part: 1, Ask: 1, Got: 1, Finish: 2},
			{Task: 1, Part: 0, Ask: 0, Got: 2, Finish: 3}, {Task: 2, Part: 0, Ask: 0, Got: 2, Finish: 3}})
}

// P24.2, P24.3: Fair: holders at one cluster go by who asked first, not by Prio.
func TestHoldersInOrder(t *testing.T) {
	for _, protocol := range []int{api.Fair, api.Token} {
		s := set(protocol,
			of(1, 1, sleep(1), locked(1, 2)),
			of(9, 1, locked(0, 3)),
			of(2, 1, run(2), locked(2, 1)))
		x := made(t, s)
		steps(t, x, 3)
		got := x.Trace().Slots
		want := []api.Slot{{Time: 0, Cluster: 1, Task: 1, Held: true}, {Time: 0, Cluster: 1, Task: 2},
			{Time: 1, Cluster: 1, Task: 1, Held: true}, {Time: 1, Cluster: 1, Task: 0, Held: true},
			{Time: 2, Cluster: 1, Task: 1, Held: true}, {Time: 2, Cluster: 1, Task: 0, Held: true}}
		if !slices.Equal(got, want) {
			t.Errorf("P24.3: protocol %d: %v", protocol, got)
		}
	}
}

// P24.2: MaxTicks are done, and no more; what errs changes nothing.
func TestMaxTicks(t *testing.T) {
	for _, protocol := range protocols() {
		s := set(protocol, every(7, of(1, 0, run(2), locked(2, 1))), every(11, of(2, 1, locked(2, 3))))
		x := made(t, s, 1, 2, 7)
		for _, n := range []int{math.MinInt, -1, 0} {
			if e := x.Run(n); e != api.OK || x.Now() != 0 {
				t.Errorf("P24.2: Run(%d): %v, then it is %d", n, e, x.Now())
			}
		}
		if e := x.Run(api.MaxTicks - 1); e != api.OK || x.Now() != api.MaxTicks-1 {
			t.Errorf("P24.2: Run: %v, then it is %d", e, x.Now())
		}
		other := made(t, s, 1, 2, 7)
		if e := other.Run(api.MaxTicks); e != api.OK || other.Now() != api.MaxTicks {
			t.Errorf("P24.2: Run: %v, then it is %d", e, other.Now())
		}
		if e := x.Run(2); e != api.ErrFull || x.Now() != api.MaxTicks {
			t.Errorf("P24.2: Run: %v, then it is %d", e, x.Now())
		}
		for _, n := range []int{math.MinInt, -1, 0} {
			if e := x.Run(n); e != api.OK {
				t.Errorf("P24.2: Run(%d) at MaxTicks: %v", n, e)
			}
		}
		if e := x.Step(); e != api.ErrFull {
			t.Errorf("P24.2: Step at MaxTicks: %v", e)
		}
		if e := x.Run(1); e != api.ErrFull || x.Now() != api.MaxTicks {
			t.Errorf("P24.2: Run at MaxTicks: %v, then it is %d", e, x.Now())
		}
		same(t, x.Trace(), other.Trace())
		third := made(t, s, 1, 2, 7)
		if e := third.Run(math.MaxInt); e != api.OK {
			t.Errorf("P24.2: Run(MaxInt): %v", e)
		}
		same(t, third.Trace(), x.Trace())
		if last := x.Trace().Slots; len(last) < 1000 || last[len(last)-1].Time < api.MaxTicks-20 {
			t.Errorf("P24.2: only %d Slots", len(last))
		}
	}
}

// same: a and b are alike in all parts.
func same(t *testing.T, a, b api.Trace) {
	t.Helper()
	if a.Ticks != b.Ticks || !slices.Equal(a.Slots, b.Slots) || !slices.Equal(a.Jobs, b.Jobs) || !slices.Equal(a.Waits, b.Waits) {
		t.Errorf("P24.2: %d and %d ticks aren't alike", a.Ticks, b.Ticks)
	}
}

// plain: the chapter's words, as they stand, by numbers alone.
type plain struct {
	set   api.Set
	tape  *tape.Tape
	locks *lock.Locks
	tasks []state
	trace api.Trace
}

type state struct {
	had, busy, asked    bool
	release, part, left int
	wait                api.Wait
}

// part: the one that a busy task is at.
func (p *plain) part(of int) api.Part { return p.set.Tasks[of].Parts[p.tasks[of].part] }

// begin: the part that a task is at takes as long as is Picked.
func (p *plain) begin(of int) { p.tasks[of].left = p.tape.Pick(1, p.part(of).Len) }

// runs: the first so many of those that may run there.
func (p *plain) runs(cluster int) []int {
	var row []api.Who
	var first []int
	cores := p.set.Cores[cluster]
	for of, t := range p.set.Tasks {
		if !p.tasks[of].busy {
			continue
		}
		part := p.part(of)
		holds := p.locks.Holds(of)
		switch {
		case holds && p.set.Protocol == api.Agent:
			if p.set.Homes[part.Res] == cluster {
				first, cores = append(first, of), cores-1
			}
		case t.Cluster == cluster && (part.Kind == api.Run || holds):
			row = append(row, api.Who{Task: of, Prio: t.Prio, Boost: p.locks.Boost(of)})
		}
	}
	return append(first, turn.First(row, cores)...)
}

func (p *plain) step() {
	now := p.trace.Ticks
	for of, t := range p.set.Tasks {
		x := &p.tasks[of]
		if !x.busy && (!x.had || now-x.release >= t.Period) && p.tape.Pick(0, 1) == 1 {
			*x = state{had: true, busy: true, release: now}
			p.begin(of)
		}
	}
	for of := range p.tasks {
		x := &p.tasks[of]
		if x.busy && p.part(of).Kind == api.Lock && !x.asked {
			x.asked, x.wait = true, api.Wait{Task: of, Part: x.part, Ask: now}
			p.locks.Ask(of, p.part(of).Res)
		}
	}
	for _, of := range p.locks.Grant() {
		p.tasks[of].wait.Got = now
	}
	var ran []int
	for cluster := range p.set.Cores {
		for _, of := range p.runs(cluster) {
			ran = append(ran, of)
			p.trace.Slots = append(p.trace.Slots, api.Slot{Time: now, Cluster: cluster, Task: of, Held: p.part(of).Kind == api.Lock})
		}
	}
	for of := range p.tasks {
		if x := p.tasks[of]; x.busy && (p.part(of).Kind == api.Sleep || slices.Contains(ran, of)) {
			p.tick(of, now+1)
		}
	}
	p.trace.Ticks++
}

// tick: one tick of a task's part is done, at that time.
func (p *plain) tick(of, time int) {
	x := &p.tasks[of]
	x.left--
	if x.left > 0 {
		return
	}
	if x.asked {
		p.locks.Leave(of)
		x.asked, x.wait.Finish = false, time
		p.trace.Waits = append(p.trace.Waits, x.wait)
	}
	x.part++
	if x.part == len(p.set.Tasks[of].Parts) {
		x.busy = false
		p.trace.Jobs = append(p.trace.Jobs, api.Done{Task: of, Release: x.release, Finish: time})
		return
	}
	p.begin(of)
}

func (p *plain) phase(of int) int {
	x := p.tasks[of]
	switch {
	case !x.busy:
		return api.Idle
	case p.part(of).Kind == api.Run:
		return api.Ready
	case p.part(of).Kind == api.Sleep:
		return api.Asleep
	case p.locks.Holds(of):
		return api.Held
	}
	return api.Queued
}

// meeting: a set of that protocol, and a tape, as chance has them; few ticks each, so that they meet.
func meeting(chance *rand.Rand, protocol int) (api.Set, []byte) {
	s := api.Set{Protocol: protocol}
	for range 1 + chance.Intn(api.MaxClusters) {
		s.Cores = append(s.Cores, 1+chance.Intn(api.MaxCores))
	}
	for range 1 + chance.Intn(api.MaxRes) {
		s.Homes = append(s.Homes, chance.Intn(len(s.Cores)))
	}
	for prio := range 1 + chance.Intn(api.MaxTasks) {
		var parts []api.Part
		for range 1 + chance.Intn(api.MaxSegs) {
			p := api.Part{Kind: 1 + chance.Intn(3), Len: 1 + chance.Intn(6)}
			if p.Kind == api.Lock {
				p.Res = chance.Intn(len(s.Homes))
			}
			parts = append(parts, p)
		}
		s.Tasks = append(s.Tasks, every(1+chance.Intn(60), of(prio+1, chance.Intn(len(s.Cores)), parts...)))
	}
	chance.Shuffle(len(s.Tasks), func(a, b int) { s.Tasks[a], s.Tasks[b] = s.Tasks[b], s.Tasks[a] })
	b := make([]byte, chance.Intn(40))
	chance.Read(b)
	return s, b
}

// P24.1 to P24.4: whatever the set and the tape.
func TestAgainstTheWords(t *testing.T) {
	chance := rand.New(rand.NewSource(24))
	for round := range 600 {
		s, b := meeting(chance, protocols()[round%3])
		x := made(t, s, b...)
		p := &plain{set: s, tape: tape.New(b), locks: lock.New(s), tasks: make([]state, len(s.Tasks))}
		for range 150 {
			phases(t, x, phasesOf(p)...)
			steps(t, x, 1)
			p.step()
		}
		same(t, x.Trace(), p.trace)
		if t.Failed() {
			t.Fatalf("round %d: %v, %v", round, s, b)
		}
	}
}

// phasesOf: of all tasks.
func phasesOf(p *plain) []int {
	var all []int
	for of := range p.tasks {
		all = append(all, p.phase(of))
	}
	return all
}

// P24.4, P40.1, P40.2: no part takes longer than it may; while one is at work and doesn't sleep somebody runs.
func TestLegal(t *testing.T) {
	chance := rand.New(rand.NewSource(40))
	for round := range 300 {
		s, b := meeting(chance, protocols()[round%3])
		x := made(t, s, b...)
		for now := range 300 {
			awake, before := false, len(x.slots)
			for of := range s.Tasks {
				phase := x.Phase(of)
				awake = awake || phase != api.Idle && phase != api.Asleep
			}
			steps(t, x, 1)
			if awake && len(x.slots) == before {
				t.Fatalf("P40.2: at %d nobody ran: %v, %v", now, s, b)
			}
		}
		got := x.Trace()
		for _, w := range got.Waits {
			held := 0
			for _, slot := range got.Slots {
				if slot.Task == w.Task && slot.Held && w.Got <= slot.Time && slot.Time < w.Finish {
					held++
				}
			}
			if held < 1 || held > s.Tasks[w.Task].Parts[w.Part].Len {
				t.Fatalf("P40.1: %v ran %d ticks: %v", w, held, s)
			}
		}
		for _, d := range got.Jobs {
			ran, most := 0, 0
			for _, slot := range got.Slots {
				if slot.Task == d.Task && d.Release <= slot.Time && slot.Time < d.Finish {
					ran++
				}
			}
			for _, part := range s.Tasks[d.Task].Parts {
				if part.Kind != api.Sleep {
					most += part.Len
				}
			}
			if ran > most {
				t.Fatalf("P40.1: %v ran %d ticks, not %d at most", d, ran, most)
			}
		}
	}
}

// DOC.md's rule 3: what is handed in is neither changed nor kept, what is told is new memory.
func TestNothingIsShared(t *testing.T) {
	s := set(api.Fair, every(4, of(1, 0, run(1), locked(0, 1))), every(5, of(2, 1, locked(0, 2))))
	b := []byte{1, 3, 5}
	x, other := made(t, s, b...), made(t, s, b...)
	clear(b)
	clear(s.Cores)
	clear(s.Homes)
	clear(s.Tasks[0].Parts)
	clear(s.Tasks)
	steps(t, x, 50)
	got := x.Trace()
	clear(got.Slots[:cap(got.Slots)])
	clear(got.Jobs[:cap(got.Jobs)])
	clear(got.Waits[:cap(got.Waits)])
	steps(t, x, 50)
	steps(t, other, 100)
	same(t, x.Trace(), other.Trace())
	if got := x.Trace(); len(got.Jobs) < 10 || len(got.Waits) < 10 {
		t.Errorf("P24.2: only %d Jobs, %d Waits", len(got.Jobs), len(got.Waits))
	}
}

// DOC.md's rule 1: an Exec that New didn't make doesn't panic.
func TestBareExec(t *testing.T) {
	x := new(Exec)
	steps(t, x, 3)
	phases(t, x, 0)
	traces(t, x, nil, nil, nil)
	if e := x.Run(5); e != api.OK || x.Now() != 8 {
		t.Errorf("Run: %v, then it is %d", e, x.Now())
	}
}
