package delay

import (
	"math"
	"math/rand"
	"slices"
	"testing"

	"swingbridge/api"
	"swingbridge/exec"
)

const (
	most  = math.MaxInt
	least = math.MinInt
)

// parts of each kind.
func run(n int) api.Part       { return api.Part{Kind: api.Run, Len: n} }
func sleep(n int) api.Part     { return api.Part{Kind: api.Sleep, Len: n} }
func lock(res, n int) api.Part { return api.Part{Kind: api.Lock, Len: n, Res: res} }

// of: a task of this Prio, at that cluster, each so many ticks.
func of(prio, cluster, period int, parts ...api.Part) api.Task {
	return api.Task{Name: "p" + string(rune('a'+prio)), Period: period, Deadline: period, Prio: prio, Cluster: cluster, Parts: parts}
}

// four: at two clusters; all but the first one have a Lock of resource 1.
func four(protocol int) api.Set {
	return api.Set{Protocol: protocol, Cores: []int{1, 2}, Homes: []int{0, 1}, Tasks: []api.Task{
		of(2, 0, 9, run(2), lock(0, 2)),
		of(4, 0, 11, lock(1, 2), run(3), lock(0, 1)),
		of(1, 1, 14, lock(1, 2), sleep(1), run(1)),
		of(3, 0, 8, run(1), lock(1, 3), run(1)),
	}}
}

// protocols: all that there are.
func protocols() []int { return []int{api.Fair, api.Agent, api.Token} }

// broken: sets that task's Check errs of.
func broken() []api.Set {
	late, twice := four(api.Fair), four(api.Token)
	late.Tasks[3].Deadline = 9
	twice.Tasks[1].Prio = 1
	return []api.Set{{}, late, twice}
}

// slot, done, wait: written short.
func slot(time, cluster, task int) api.Slot {
	return api.Slot{Time: time, Cluster: cluster, Task: task}
}
func done(task, release, finish int) api.Done {
	return api.Done{Task: task, Release: release, Finish: finish}
}
func wait(task, part, ask, got, finish int) api.Wait {
	return api.Wait{Task: task, Part: part, Ask: ask, Got: got, Finish: finish}
}

// P26.1: Wait and Response: as ints go round.
func TestDifferences(t *testing.T) {
	for _, c := range []struct{ from, to, want int }{
		{3, 8, 5}, {0, 0, 0}, {8, 3, -5}, {-4, 4, 8}, {least, most, -1}, {most, least, 1}, {1, least, most}, {least, 0, least},
	} {
		if got := Wait(wait(-7, 9, c.from, 77, c.to)); got != c.want {
			t.Errorf("P26.1: Wait from %d to %d: %d, not %d", c.from, c.to, got, c.want)
		}
		if got := Response(done(-7, c.from, c.to)); got != c.want {
			t.Errorf("P26.1: Response from %d to %d: %d, not %d", c.from, c.to, got, c.want)
		}
	}
}

// passed: Passed tells that.
func passed(t *testing.T, s api.Set, tr api.Trace, w api.Wait, want int) {
	t.Helper()
	if got := Passed(s, tr, w); got != want {
		t.Errorf("P26.1: Passed(%v) of %v: %d, not %d", w, tr.Waits, got, want)
	}
}

// P26.1: Passed: one other Wait, got and done with at all times, against one that asked at 10 and got at 20.
func TestPassedTimes(t *testing.T) {
	for _, c := range []struct{ got, finish, want int }{
		{9, 10, 0}, {9, 11, 1}, {9, most, 1}, {least, 11, 1}, {least, 10, 0}, {9, 9, 0}, {9, least, 0},
		{10, 11, 1}, {10, 10, 1}, {10, 9, 1}, {10, least, 1}, {15, 16, 1}, {19, 20, 1}, {19, 99, 1},
		{20, 21, 0}, {20, 99, 0}, {21, 22, 0}, {most, most, 0},
	} {
		for _, protocol := range protocols() {
			// When the other one asked doesn't count.
			for _, ask := range []int{least, 0, 10, 15, most} {
				tr := api.Trace{Waits: []api.Wait{wait(1, 0, ask, c.got, c.finish)}}
				passed(t, four(protocol), tr, wait(3, 1, 10, 20, 25), c.want)
			}
		}
	}
	// One that got it as it asked: only who held it then counts, of which there is none in a run.
	at := api.Trace{Waits: []api.Wait{wait(1, 0, 0, 9, 11), wait(1, 0, 0, 10, 11), wait(2, 0, 0, 11, 12)}}
	passed(t, four(api.Fair), at, wait(3, 1, 10, 10, 12), 1)
}

// P26.1: Passed: other tasks, of the same resource; each Wait counts.
func TestPassedOthers(t *testing.T) {
	s := four(api.Fair)
	tr := api.Trace{Waits: []api.Wait{
		wait(1, 0, 0, 5, 8), wait(2, 0, 0, 8, 9), wait(2, 0, 0, 10, 11), wait(1, 0, 0, 11, 12),
		wait(3, 1, 0, 7, 9),                      // of the same task
		wait(1, 2, 0, 7, 9), wait(0, 1, 0, 8, 9), // for another resource
		wait(1, 1, 0, 7, 9), wait(2, 1, 0, 7, 9), wait(3, 2, 0, 7, 9), // no Locks
		wait(1, 3, 0, 7, 9), wait(1, -1, 0, 7, 9), wait(1, most, 0, 7, 9), // no such parts
		wait(4, 0, 0, 7, 9), wait(-1, 0, 0, 7, 9), wait(most, 0, 0, 7, 9), wait(least, 0, 0, 7, 9), wait(1, least, 0, 7, 9), // no such tasks
	}}
	passed(t, s, tr, wait(3, 1, 6, 20, 23), 4)
	passed(t, s, tr, wait(3, 1, 6, 11, 23), 3)
	passed(t, s, tr, wait(3, 1, 8, 11, 23), 2)
	passed(t, s, tr, wait(1, 0, 6, 20, 23), 3)
	passed(t, s, tr, wait(0, 1, 6, 20, 23), 1)
	passed(t, s, tr, wait(1, 2, 6, 20, 23), 1)
	passed(t, s, api.Trace{}, wait(3, 1, 6, 20, 23), 0)
	// No Lock of it.
	for _, w := range []api.Wait{wait(3, 0, 6, 20, 23), wait(2, 1, 6, 20, 23), wait(3, -1, 6, 20, 23), wait(3, 3, 6, 20, 23),
		wait(4, 0, 6, 20, 23), wait(-1, 1, 6, 20, 23), wait(most, 1, 6, 20, 23), wait(3, least, 6, 20, 23)} {
		passed(t, s, tr, w, 0)
	}
	for _, s := range broken() {
		passed(t, s, tr, wait(3, 1, 6, 20, 23), 0)
	}
}

// inverted: Inverted tells that.
func inverted(t *testing.T, s api.Set, tr api.Trace, d api.Done, want int) {
	t.Helper()
	if got := Inverted(s, tr, d); got != want {
		t.Errorf("P26.2: Inverted(%v) of %v: %d, not %d", d, tr, got, want)
	}
}

// P26.2: which Slots block task 3 (Prio 3, cluster 0): those of 1 (Prio 4) there.
func TestInvertedSlots(t *testing.T) {
	s := four(api.Fair)
	for i, c := range []struct {
		slots []api.Slot
		want  int
	}{
		{nil, 0},
		{[]api.Slot{slot(5, 0, 1)}, 1},
		{[]api.Slot{{Time: 5, Cluster: 0, Task: 1, Held: true}}, 1},
		{[]api.Slot{slot(5, 0, 0)}, 0},                               // of lesser Prio
		{[]api.Slot{slot(5, 0, 2)}, 0},                               // likewise, from another cluster
		{[]api.Slot{slot(5, 1, 1)}, 0},                               // at another cluster
		{[]api.Slot{slot(5, 0, 1), slot(5, 0, 3)}, 0},                // it ran
		{[]api.Slot{slot(5, 0, 3), slot(5, 0, 1)}, 0},                // likewise
		{[]api.Slot{slot(5, 0, 1), slot(5, 1, 3)}, 0},                // it ran elsewhere
		{[]api.Slot{slot(5, 0, 0), slot(5, 0, 1), slot(5, 1, 2)}, 1}, // in whatever order
		{[]api.Slot{slot(5, 0, 1), slot(5, 0, 1), slot(5, 0, 1)}, 1}, // a tick counts once
		{[]api.Slot{slot(6, 0, 1), slot(5, 0, 1), slot(8, 0, 1)}, 3}, // ticks in no order
		{[]api.Slot{slot(4, 0, 1), slot(9, 0, 1)}, 0},                // ahead, and behind
		{[]api.Slot{slot(5, 0, 4), slot(6, 0, -1), slot(7, 0, most), slot(8, 0, least)}, 0},
		{[]api.Slot{slot(5, -1, 1), slot(6, most, 1), slot(7, least, 1)}, 0},
	} {
		for _, protocol := range protocols() {
			s.Protocol = protocol
			if got := Inverted(s, api.Trace{Slots: c.slots}, done(3, 5, 9)); got != c.want {
				t.Errorf("P26.2: row %d: %d, not %d", i, got, c.want)
			}
		}
	}
}

// P26.2: one that holds isn't blocked, from Got on.
func TestInvertedHolders(t *testing.T) {
	s := four(api.Fair)
	var slots []api.Slot
	for time := range 30 {
		slots = append(slots, slot(time, 0, 1))
	}
	for i, c := range []struct {
		waits []api.Wait
		want  int
	}{
		{nil, 10},
		{[]api.Wait{wait(3, 1, 0, 12, 15)}, 7},
		{[]api.Wait{wait(3, 1, 10, 12, 13)}, 9},
		{[]api.Wait{wait(3, 1, 0, 0, 12)}, 8},
		{[]api.Wait{wait(3, 1, 0, 0, 10)}, 10},
		{[]api.Wait{wait(3, 1, 0, 0, 11)}, 9},
		{[]api.Wait{wait(3, 1, 0, 19, 25)}, 9},
		{[]api.Wait{wait(3, 1, 0, 20, 25)}, 10},
		{[]api.Wait{wait(3, 1, 0, least, most)}, 0},
		{[]api.Wait{wait(3, 1, 0, most, least)}, 10},
		{[]api.Wait{wait(3, 1, 0, 15, 12)}, 10},
		{[]api.Wait{wait(3, 1, 0, 12, 12)}, 10},
		// Of another task.
		{[]api.Wait{wait(1, 0, 0, 12, 15), wait(0, 1, 0, 12, 15), wait(-1, 1, 0, 12, 15), wait(most, 1, 0, 12, 15)}, 10},
		// Several, one in another, and one behind another.
		{[]api.Wait{wait(3, 1, 0, 11, 16), wait(3, 1, 0, 12, 14), wait(3, 1, 0, 16, 17)}, 4},
		{[]api.Wait{wait(3, 1, 0, 14, 19), wait(3, 1, 0, 8, 15)}, 1},
	} {
		if got := Inverted(s, api.Trace{Slots: slots, Waits: c.waits}, done(3, 10, 20)); got != c.want {
			t.Errorf("P26.2: row %d: %d, not %d", i, got, c.want)
		}
	}
}

// P26.2: ticks from 0 to MaxTicks, wherever the job lies; errors.
func TestInvertedEdges(t *testing.T) {
	s := four(api.Token)
	tr := api.Trace{Slots: []api.Slot{slot(least, 0, 1), slot(-1, 0, 1), slot(0, 0, 1), slot(1, 0, 1), slot(api.MaxTicks-1, 0, 1),
		slot(api.MaxTicks, 0, 1), slot(api.MaxTicks+1, 0, 1), slot(most, 0, 1)}}
	for _, c := range []struct{ release, finish, want int }{
		{0, 1, 1}, {-1, 1, 1}, {least, most, 4}, {least, 0, 0}, {least, least, 0}, {most, most, 0}, {most, least, 0}, {0, 0, 0},
		{1, 0, 0}, {0, api.MaxTicks, 3}, {0, api.MaxTicks + 1, 4}, {2, api.MaxTicks + 2, 2}, {api.MaxTicks, api.MaxTicks + 1, 1},
		{api.MaxTicks + 1, most, 0}, {api.MaxTicks, most, 1},
	} {
		inverted(t, s, tr, done(3, c.release, c.finish), c.want)
	}
	for _, task := range []int{-1, 4, most, least} {
		inverted(t, s, tr, done(task, 0, 9), 0)
	}
	// By the first task, and by the last one.
	inverted(t, s, api.Trace{Slots: []api.Slot{slot(5, 1, 0), slot(6, 1, 3), slot(7, 0, 0)}}, done(2, 0, 9), 2)
	// The one of greatest Prio is never blocked.
	inverted(t, s, tr, done(1, 0, 9), 0)
	inverted(t, s, tr, done(0, 0, 9), 2)
	for _, s := range broken() {
		inverted(t, s, tr, done(3, 0, 9), 0)
	}
}

// inWords: P26.2's words, tick by tick.
func inWords(s api.Set, tr api.Trace, d api.Done) int {
	n := 0
	for time := max(0, d.Release); time < d.Finish; time++ {
		blocked, free := false, false
		for _, x := range tr.Slots {
			if x.Time == time {
				free = free || x.Task == d.Task
				blocked = blocked || x.Cluster == s.Tasks[d.Task].Cluster && s.Tasks[x.Task].Prio > s.Tasks[d.Task].Prio
			}
		}
		for _, w := range tr.Waits {
			free = free || w.Task == d.Task && w.Got <= time && time < w.Finish
		}
		if blocked && !free {
			n++
		}
	}
	return n
}

// passedInWords: P26.1's words, of a Trace of exec.
func passedInWords(s api.Set, tr api.Trace, w api.Wait) int {
	n := 0
	for _, x := range tr.Waits {
		same := s.Tasks[x.Task].Parts[x.Part].Res == s.Tasks[w.Task].Parts[w.Part].Res
		if same && x.Task != w.Task && (x.Got >= w.Ask && x.Got < w.Got || x.Got < w.Ask && x.Finish > w.Ask) {
			n++
		}
	}
	return n
}

// P26.1 to P26.3: what there was in runs; and, in these: by Fair and Token, who waits for others is passed by each other one once at most.
func TestAgainstTheWords(t *testing.T) {
	chance := rand.New(rand.NewSource(26))
	blocked, waited := 0, 0
	for round := range 150 {
		s := four(protocols()[round%3])
		b := make([]byte, chance.Intn(30))
		chance.Read(b)
		x, e := exec.New(s, b)
		if e != api.OK {
			t.Fatalf("New: %v", e)
		}
		x.Run(150)
		tr := x.Trace()
		for _, d := range tr.Jobs {
			want := inWords(s, tr, d)
			inverted(t, s, tr, d, want)
			blocked += want
		}
		for _, w := range tr.Waits {
			want := passedInWords(s, tr, w)
			passed(t, s, tr, w, want)
			waited += want
			if s.Protocol == api.Fair && want > 2 {
				t.Errorf("P26.3: %v was passed by %d of 2 others", w, want)
			}
		}
	}
	if blocked < 100 || waited < 100 {
		t.Errorf("only %d blocked, %d waited", blocked, waited)
	}
}

// P26.1, P26.2: a Trace as long as one may be is looked at in time.
func TestLongTrace(t *testing.T) {
	s := four(api.Fair)
	var tr api.Trace
	for range 100000 {
		tr.Waits = append(tr.Waits, wait(0, 1, 0, 10, api.MaxTicks))
	}
	for time := range api.MaxTicks {
		tr.Slots = append(tr.Slots, slot(time, 0, 1))
	}
	inverted(t, s, tr, done(0, 0, most), 10)
	inverted(t, s, tr, done(3, 0, most), api.MaxTicks)
}

// DOC.md's rule 3: nothing that is handed in is changed.
func TestNothingIsChanged(t *testing.T) {
	s := four(api.Fair)
	tr := api.Trace{Slots: []api.Slot{slot(5, 0, 1), slot(2, 0, 1)}, Waits: []api.Wait{wait(1, 0, 0, 12, 15), wait(3, 1, 0, 2, 3)}}
	slots, waits := slices.Clone(tr.Slots), slices.Clone(tr.Waits)
	Passed(s, tr, tr.Waits[0])
	Inverted(s, tr, done(3, 0, 9))
	if !slices.Equal(tr.Slots, slots) || !slices.Equal(tr.Waits, waits) {
		t.Errorf("the Trace was changed: %v", tr)
	}
}
