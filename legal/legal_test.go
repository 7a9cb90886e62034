package legal

import (
	"math"
	"math/rand"
	"slices"
	"testing"

	"swingbridge/api"
	"swingbridge/exec"
)

// parts of each kind.
func run(n int) api.Part       { return api.Part{Kind: api.Run, Len: n} }
func sleep(n int) api.Part     { return api.Part{Kind: api.Sleep, Len: n} }
func lock(res, n int) api.Part { return api.Part{Kind: api.Lock, Len: n, Res: res} }

// of: a task of this Prio, at that cluster, each so many ticks.
func of(prio, cluster, period int, parts ...api.Part) api.Task {
	return api.Task{Name: "p" + string(rune('a'+prio)), Period: period, Deadline: period, Prio: prio, Cluster: cluster, Parts: parts}
}

// three: at two clusters, of one core and of two.
func three(protocol int) api.Set {
	return api.Set{Protocol: protocol, Cores: []int{1, 2}, Homes: []int{0, 1}, Tasks: []api.Task{
		of(1, 0, 4, run(2), lock(1, 2)),
		of(2, 1, 5, lock(0, 2), lock(1, 1), sleep(1)),
		of(3, 1, 6, run(3), lock(1, 3)),
	}}
}

// protocols: all that there are.
func protocols() []int { return []int{api.Fair, api.Agent, api.Token} }

// slot, done, wait: written short.
func slot(time, cluster, task int) api.Slot {
	return api.Slot{Time: time, Cluster: cluster, Task: task}
}
func held(time, cluster, task int) api.Slot {
	return api.Slot{Time: time, Cluster: cluster, Task: task, Held: true}
}
func done(task, release, finish int) api.Done {
	return api.Done{Task: task, Release: release, Finish: finish}
}
func wait(task, part, ask, got, finish int) api.Wait {
	return api.Wait{Task: task, Part: part, Ask: ask, Got: got, Finish: finish}
}

// checks: Check tells that of t.
func checks(t *testing.T, s api.Set, tr api.Trace, want bool) {
	t.Helper()
	if Check(s, tr) != want {
		t.Errorf("P25.2: protocol %d: Check(%v) isn't %v", s.Protocol, tr, want)
	}
}

// P25.2: the example, and how many Ticks there may be.
func TestTicks(t *testing.T) {
	for _, protocol := range protocols() {
		for _, c := range []struct {
			ticks int
			want  bool
		}{{0, true}, {1, true}, {api.MaxTicks, true}, {api.MaxTicks + 1, false}, {-1, false}, {math.MinInt, false}, {math.MaxInt, false}} {
			checks(t, three(protocol), api.Trace{Ticks: c.ticks}, c.want)
		}
	}
}

// P25.2: a set that task's Check errs of.
func TestSetThatErrs(t *testing.T) {
	late, twice := three(api.Fair), three(api.Token)
	late.Tasks[1].Deadline = 6
	twice.Tasks[2].Prio = 1
	for _, s := range []api.Set{{}, late, twice, {Protocol: api.Fair, Cores: []int{1}}} {
		checks(t, s, api.Trace{}, false)
		if task, ok := Holder(api.Trace{Ticks: 9, Waits: []api.Wait{wait(0, 1, 0, 0, 9)}}, s, 1, 1); task != 0 || ok {
			t.Errorf("P25.1: Holder of %v: %d, %v", s, task, ok)
		}
	}
}

// P25.2: Slots, row by row; of all protocols, and of Agent.
func TestSlots(t *testing.T) {
	for i, c := range []struct {
		slots        []api.Slot
		want, agents bool
	}{
		{[]api.Slot{slot(0, 0, 0), slot(0, 1, 1), held(0, 1, 2), slot(1, 0, 0), held(9, 1, 1)}, true, true},
		{[]api.Slot{slot(0, 1, 2), slot(0, 1, 1)}, true, true},
		// Not in order.
		{[]api.Slot{slot(1, 0, 0), slot(0, 1, 1)}, false, false},
		{[]api.Slot{slot(3, 1, 1), slot(3, 0, 0)}, false, false},
		{[]api.Slot{slot(3, 1, 1), slot(4, 0, 0)}, true, true},
		{[]api.Slot{slot(3, 0, 0), slot(5, 0, 0), slot(4, 0, 0)}, false, false},
		// None of those that there are.
		{[]api.Slot{slot(-1, 0, 0)}, false, false},
		{[]api.Slot{slot(10, 0, 0)}, false, false},
		{[]api.Slot{slot(math.MaxInt, 0, 0)}, false, false},
		{[]api.Slot{slot(math.MinInt, 0, 0)}, false, false},
		{[]api.Slot{slot(0, -1, 0)}, false, false},
		{[]api.Slot{held(0, 2, 0)}, false, false},
		{[]api.Slot{held(0, math.MinInt, 0)}, false, false},
		{[]api.Slot{slot(0, 0, -1)}, false, false},
		{[]api.Slot{slot(0, 1, 3)}, false, false},
		{[]api.Slot{slot(0, 1, math.MaxInt)}, false, false},
		// More than cores; in each of two ticks as many.
		{[]api.Slot{held(2, 0, 0), held(2, 0, 1)}, false, false},
		{[]api.Slot{held(2, 1, 0), held(2, 1, 1), held(2, 1, 2)}, false, false},
		{[]api.Slot{slot(2, 0, 0), slot(2, 1, 1), slot(2, 1, 2), slot(3, 0, 0), slot(3, 1, 2), slot(3, 1, 1)}, true, true},
		// A task twice in a tick, at one cluster and at two.
		{[]api.Slot{slot(2, 1, 1), slot(2, 1, 1)}, false, false},
		{[]api.Slot{slot(2, 0, 0), held(2, 1, 0)}, false, false},
		{[]api.Slot{held(2, 0, 1), slot(2, 1, 1)}, false, false},
		// At a cluster that isn't its own.
		{[]api.Slot{slot(2, 1, 0)}, false, false},
		{[]api.Slot{slot(2, 0, 2)}, false, false},
		{[]api.Slot{held(2, 1, 0)}, false, true},
		{[]api.Slot{held(2, 0, 2), held(2, 1, 0)}, false, true},
	} {
		for _, protocol := range protocols() {
			want := c.want || c.agents && protocol == api.Agent
			if Check(three(protocol), api.Trace{Ticks: 10, Slots: c.slots}) != want {
				t.Errorf("P25.2: protocol %d, row %d isn't %v: %v", protocol, i, want, c.slots)
			}
		}
	}
}

// P25.2: Jobs, row by row.
func TestJobs(t *testing.T) {
	for i, c := range []struct {
		jobs []api.Done
		want bool
	}{
		{[]api.Done{done(0, 0, 4), done(1, 0, 1), done(0, 4, 5), done(1, 5, 20), done(0, 8, 20)}, true},
		{[]api.Done{done(0, 19, 20)}, true},
		// In whatever order those of several tasks stand.
		{[]api.Done{done(0, 10, 20), done(1, 0, 1), done(2, 3, 4)}, true},
		{[]api.Done{done(-1, 0, 1)}, false},
		{[]api.Done{done(3, 0, 1)}, false},
		{[]api.Done{done(math.MinInt, 0, 1)}, false},
		{[]api.Done{done(0, -1, 1)}, false},
		{[]api.Done{done(0, 1, 1)}, false},
		{[]api.Done{done(0, 2, 1)}, false},
		{[]api.Done{done(0, 0, 0)}, false},
		{[]api.Done{done(0, 0, 21)}, false},
		{[]api.Done{done(0, 20, 21)}, false},
		{[]api.Done{done(0, math.MinInt, math.MaxInt)}, false},
		{[]api.Done{done(0, math.MaxInt, math.MinInt)}, false},
		// A Period of 4: too early, just in time; behind the Finish, in it.
		{[]api.Done{done(0, 0, 1), done(0, 3, 5)}, false},
		{[]api.Done{done(0, 0, 1), done(0, 4, 5)}, true},
		{[]api.Done{done(0, 2, 8), done(0, 7, 9)}, false},
		{[]api.Done{done(0, 2, 8), done(0, 8, 9)}, true},
		{[]api.Done{done(0, 2, 8), done(1, 3, 4), done(0, 7, 9)}, false},
		{[]api.Done{done(0, 8, 9), done(0, 0, 1)}, false},
		{[]api.Done{done(0, 0, 1), done(0, 0, 1)}, false},
		// The one ahead is the last one, not the first one.
		{[]api.Done{done(0, 0, 1), done(0, 10, 11), done(0, 12, 13)}, false},
	} {
		for _, protocol := range protocols() {
			if Check(three(protocol), api.Trace{Ticks: 20, Jobs: c.jobs}) != c.want {
				t.Errorf("P25.2: protocol %d, row %d isn't %v: %v", protocol, i, c.want, c.jobs)
			}
		}
	}
}

// P25.2: Waits, row by row.
func TestWaits(t *testing.T) {
	for i, c := range []struct {
		waits []api.Wait
		want  bool
	}{
		{[]api.Wait{wait(0, 1, 0, 0, 1), wait(1, 1, 0, 1, 3), wait(1, 0, 0, 0, 9), wait(2, 1, 3, 3, 10)}, true},
		{[]api.Wait{wait(0, 1, 9, 9, 10)}, true},
		// No Lock, or none at all.
		{[]api.Wait{wait(0, 0, 0, 0, 1)}, false},
		{[]api.Wait{wait(1, 2, 0, 0, 1)}, false},
		{[]api.Wait{wait(0, 2, 0, 0, 1)}, false},
		{[]api.Wait{wait(0, -1, 0, 0, 1)}, false},
		{[]api.Wait{wait(0, math.MaxInt, 0, 0, 1)}, false},
		{[]api.Wait{wait(-1, 1, 0, 0, 1)}, false},
		{[]api.Wait{wait(3, 1, 0, 0, 1)}, false},
		{[]api.Wait{wait(math.MinInt, 1, 0, 0, 1)}, false},
		// Times.
		{[]api.Wait{wait(0, 1, -1, 0, 1)}, false},
		{[]api.Wait{wait(0, 1, 2, 1, 3)}, false},
		{[]api.Wait{wait(0, 1, 2, 3, 3)}, false},
		{[]api.Wait{wait(0, 1, 2, 4, 3)}, false},
		{[]api.Wait{wait(0, 1, 2, 3, 11)}, false},
		{[]api.Wait{wait(0, 1, 10, 10, 11)}, false},
		{[]api.Wait{wait(0, 1, math.MinInt, -1, 11)}, false},
		{[]api.Wait{wait(0, 1, 0, math.MaxInt, math.MinInt)}, false},
		{[]api.Wait{wait(0, 1, 0, 0, math.MaxInt)}, false},
		// Resource 1: one behind the other, in whatever order they stand; with a tick in common.
		{[]api.Wait{wait(0, 1, 0, 4, 6), wait(1, 1, 0, 2, 4)}, true},
		{[]api.Wait{wait(0, 1, 0, 3, 6), wait(1, 1, 0, 2, 4)}, false},
		{[]api.Wait{wait(0, 1, 0, 4, 6), wait(1, 1, 0, 5, 7)}, false},
		{[]api.Wait{wait(0, 1, 0, 4, 8), wait(1, 1, 0, 5, 7)}, false},
		{[]api.Wait{wait(0, 1, 0, 5, 6), wait(1, 1, 0, 2, 9)}, false},
		{[]api.Wait{wait(0, 1, 0, 2, 4), wait(0, 1, 0, 3, 5)}, false},
		{[]api.Wait{wait(0, 1, 0, 2, 4), wait(2, 1, 0, 8, 9), wait(1, 1, 0, 4, 8), wait(2, 1, 0, 3, 4)}, false},
		// Two resources have nothing in common.
		{[]api.Wait{wait(0, 1, 0, 2, 4), wait(1, 0, 0, 2, 4)}, true},
	} {
		for _, protocol := range protocols() {
			if Check(three(protocol), api.Trace{Ticks: 10, Waits: c.waits}) != c.want {
				t.Errorf("P25.2: protocol %d, row %d isn't %v: %v", protocol, i, c.want, c.waits)
			}
		}
	}
}

// P25.2: no Waits fit where there are no resources.
func TestNoResources(t *testing.T) {
	s := api.Set{Protocol: api.Fair, Cores: []int{1}, Tasks: []api.Task{of(1, 0, 4, run(2))}}
	checks(t, s, api.Trace{Ticks: 5, Slots: []api.Slot{slot(0, 0, 0)}, Jobs: []api.Done{done(0, 0, 1)}}, true)
	checks(t, s, api.Trace{Ticks: 5, Waits: []api.Wait{wait(0, 0, 0, 0, 1)}}, false)
}

// P25.1: Busy: the Tasks of that tick and cluster, as t has them, whatever t is.
func TestBusy(t *testing.T) {
	tr := api.Trace{Ticks: -3, Slots: []api.Slot{slot(2, 1, 5), slot(1, 1, 7), held(2, 1, -9), slot(2, 0, 4), slot(2, 1, 5), slot(math.MaxInt, math.MinInt, 1)}}
	for _, c := range []struct {
		time, cluster int
		want          []int
	}{{2, 1, []int{5, -9, 5}}, {1, 1, []int{7}}, {2, 0, []int{4}}, {1, 0, nil}, {3, 1, nil}, {math.MaxInt, math.MinInt, []int{1}}, {math.MinInt, math.MaxInt, nil}} {
		for range 2 {
			got := Busy(tr, c.time, c.cluster)
			if !slices.Equal(got, c.want) {
				t.Errorf("P25.1: Busy(%d, %d): %v, not %v", c.time, c.cluster, got, c.want)
			}
			clear(got[:cap(got)])
		}
	}
}

// P25.1: Holder: the first Wait, as t has them, for that resource from Got up to Finish less one.
func TestHolder(t *testing.T) {
	tr := api.Trace{Ticks: 1, Waits: []api.Wait{
		wait(9, 1, 0, 0, 99), // no such task
		wait(1, 2, 0, 0, 99), // a Sleep
		wait(0, 0, 0, 0, 99), // a Run
		wait(1, -1, 0, 0, 99),
		wait(1, 3, 0, 0, 99),
		wait(2, 1, 0, 5, 8),
		wait(0, 1, 0, 7, 12),
		wait(1, 0, 0, 6, 7),
		wait(1, 1, 0, 30, 20), // done with ahead of Got
		wait(0, 1, 0, math.MinInt, -50),
		wait(2, 1, 0, 60, math.MaxInt),
	}}
	for _, protocol := range protocols() {
		for _, c := range []struct {
			time, res, want int
		}{
			{4, 1, -1}, {5, 1, 2}, {6, 1, 2}, {7, 1, 2}, {8, 1, 0}, {11, 1, 0}, {12, 1, -1},
			{5, 0, -1}, {6, 0, 1}, {7, 0, -1}, {25, 1, -1}, {30, 1, -1}, {20, 1, -1},
			{-51, 1, 0}, {-50, 1, -1}, {math.MinInt, 1, 0}, {math.MaxInt - 1, 1, 2}, {math.MaxInt, 1, -1},
			{6, -1, -1}, {6, 2, -1}, {6, math.MaxInt, -1}, {6, math.MinInt, -1},
		} {
			task, ok := Holder(tr, three(protocol), c.time, c.res)
			if ok != (c.want >= 0) || task != max(c.want, 0) {
				t.Errorf("P25.1: Holder(%d, %d): %d, %v, not %d", c.time, c.res, task, ok, c.want)
			}
		}
	}
}

// words: P25.2's words one by one, each pair against each.
func words(s api.Set, tr api.Trace) bool {
	ok := tr.Ticks >= 0 && tr.Ticks <= api.MaxTicks
	for at, x := range tr.Slots {
		ok = ok && x.Time >= 0 && x.Time < tr.Ticks && x.Cluster >= 0 && x.Cluster < len(s.Cores) && x.Task >= 0 && x.Task < len(s.Tasks)
		ok = ok && (x.Cluster == s.Tasks[x.Task].Cluster || s.Protocol == api.Agent && x.Held)
		beside := 0
		for bt, y := range tr.Slots {
			ok = ok && (bt <= at || y.Time > x.Time || y.Time == x.Time && y.Cluster >= x.Cluster)
			ok = ok && (bt == at || y.Time != x.Time || y.Task != x.Task)
			if y.Time == x.Time && y.Cluster == x.Cluster {
				beside++
			}
		}
		ok = ok && beside <= s.Cores[x.Cluster]
	}
	for at, d := range tr.Jobs {
		ok = ok && d.Task >= 0 && d.Task < len(s.Tasks) && d.Release >= 0 && d.Release < d.Finish && d.Finish <= tr.Ticks
		for _, y := range tr.Jobs[:at] {
			ok = ok && (y.Task != d.Task || d.Release >= y.Finish && d.Release >= y.Release+s.Tasks[d.Task].Period)
		}
	}
	for at, w := range tr.Waits {
		ok = ok && w.Task >= 0 && w.Task < len(s.Tasks) && w.Part >= 0 && w.Part < len(s.Tasks[w.Task].Parts)
		ok = ok && s.Tasks[w.Task].Parts[w.Part].Kind == api.Lock
		ok = ok && w.Ask >= 0 && w.Ask <= w.Got && w.Got < w.Finish && w.Finish <= tr.Ticks
		for _, y := range tr.Waits[:at] {
			ok = ok && (s.Tasks[w.Task].Parts[w.Part].Res != s.Tasks[y.Task].Parts[y.Part].Res || w.Got >= y.Finish || y.Got >= w.Finish)
		}
	}
	return ok
}

// ran: what exec did, by that tape.
func ran(t *testing.T, s api.Set, ticks int, b []byte) api.Trace {
	t.Helper()
	x, e := exec.New(s, b)
	if e != api.OK {
		t.Fatalf("New: %v", e)
	}
	x.Run(ticks)
	return x.Trace()
}

// bend: one number of tr is another one, by chance; or two of its rows change places.
func bend(chance *rand.Rand, tr *api.Trace) {
	by := []int{-3, -2, -1, 1, 2, 3}[chance.Intn(6)]
	switch n := chance.Intn(13); {
	case n == 0:
		tr.Ticks += by
	case n < 5 && len(tr.Slots) > 0:
		x := &tr.Slots[chance.Intn(len(tr.Slots))]
		switch n {
		case 1:
			x.Time += by
		case 2:
			x.Cluster += by
		case 3:
			x.Task += by
		case 4:
			y := &tr.Slots[chance.Intn(len(tr.Slots))]
			*x, *y = *y, *x
		}
	case n < 8 && len(tr.Jobs) > 0:
		x := &tr.Jobs[chance.Intn(len(tr.Jobs))]
		*[]*int{&x.Task, &x.Release, &x.Finish}[n-5] += by
	case n < 13 && len(tr.Waits) > 0:
		x := &tr.Waits[chance.Intn(len(tr.Waits))]
		*[]*int{&x.Task, &x.Part, &x.Ask, &x.Got, &x.Finish}[max(n-8, 0)] += by
	}
}

// P25.2, P25.3: each run is right; one that is bent is, where the words have it so.
func TestAgainstTheWords(t *testing.T) {
	chance := rand.New(rand.NewSource(25))
	right, wrong := 0, 0
	for round := range 400 {
		s := three(protocols()[round%3])
		b := make([]byte, chance.Intn(20))
		chance.Read(b)
		tr := ran(t, s, chance.Intn(60), b)
		checks(t, s, tr, true)
		if !words(s, tr) {
			t.Errorf("P25.3: the words don't have it so: %v", tr)
		}
		for range 60 {
			bent := api.Trace{Ticks: tr.Ticks, Slots: slices.Clone(tr.Slots), Jobs: slices.Clone(tr.Jobs), Waits: slices.Clone(tr.Waits)}
			bend(chance, &bent)
			want := words(s, bent)
			checks(t, s, bent, want)
			if want {
				right++
			} else {
				wrong++
			}
		}
	}
	if right < 1000 || wrong < 1000 {
		t.Errorf("only %d right, %d wrong", right, wrong)
	}
}

// P25.3: whatever the set and the tape, exec's Trace is right, and its Slots tell who holds.
func TestRunsAreRight(t *testing.T) {
	chance := rand.New(rand.NewSource(5))
	for round := range 150 {
		s := three(protocols()[round%3])
		for at := range s.Tasks {
			s.Tasks[at].Cluster = chance.Intn(2)
		}
		b := make([]byte, chance.Intn(30))
		chance.Read(b)
		tr := ran(t, s, 200, b)
		checks(t, s, tr, true)
		for _, w := range tr.Waits {
			res := s.Tasks[w.Task].Parts[w.Part].Res
			for time := w.Got; time < w.Finish; time++ {
				if task, ok := Holder(tr, s, time, res); task != w.Task || !ok {
					t.Fatalf("P25.1: Holder(%d, %d): %d, %v, not %d", time, res, task, ok, w.Task)
				}
			}
		}
		for time := range tr.Ticks {
			n := 0
			for cluster := range s.Cores {
				n += len(Busy(tr, time, cluster))
			}
			for _, x := range tr.Slots {
				if x.Time == time {
					n--
				}
			}
			if n != 0 {
				t.Fatalf("P25.1: at %d Busy tells %d too many", time, n)
			}
		}
	}
}

// P25.2: a Trace as long as one may be is looked at in time.
func TestLongTrace(t *testing.T) {
	s := three(api.Fair)
	s.Tasks = s.Tasks[:2]
	tr := api.Trace{Ticks: api.MaxTicks}
	for time := range api.MaxTicks {
		tr.Waits = append(tr.Waits, wait(time%2, 1, 0, time, time+1), wait(1, 0, 0, time, time+1))
	}
	checks(t, s, tr, true)
	tr.Waits = append(tr.Waits, wait(0, 1, 0, 7, 8))
	checks(t, s, tr, false)
}

// DOC.md's rule 3: nothing that is handed in is changed.
func TestNothingIsChanged(t *testing.T) {
	s := three(api.Token)
	tr := ran(t, s, 90, []byte{1, 7, 3})
	before := api.Trace{Ticks: tr.Ticks, Slots: slices.Clone(tr.Slots), Jobs: slices.Clone(tr.Jobs), Waits: slices.Clone(tr.Waits)}
	Check(s, tr)
	Holder(tr, s, 3, 1)
	Busy(tr, 3, 1)
	if !slices.Equal(tr.Slots, before.Slots) || !slices.Equal(tr.Jobs, before.Jobs) || !slices.Equal(tr.Waits, before.Waits) {
		t.Errorf("the Trace was changed: %v", tr)
	}
}
