package script

import (
	"math/rand"
	"slices"
	"strconv"
	"strings"
	"testing"

	"swingbridge/api"
	"swingbridge/audit"
	"swingbridge/delay"
	"swingbridge/exec"
	"swingbridge/legal"
	"swingbridge/report"
	"swingbridge/text"
	"swingbridge/words"
)

// does: Do(line) tells just these lines.
func does(t *testing.T, s *Script, line string, want ...string) {
	t.Helper()
	if got, e := s.Do(line); e != api.OK || !slices.Equal(got, want) {
		t.Errorf("P28.1: Do(%q): %q, %v, not %q", line, got, e, want)
	}
}

// refuses: Do(line) tells ErrLine, and nothing beside it.
func refuses(t *testing.T, s *Script, line string) {
	t.Helper()
	if got, e := s.Do(line); e != api.ErrLine || len(got) != 0 {
		t.Errorf("P28.1: Do(%q): %q, %v, not ErrLine", line, got, e)
	}
}

// of: a script whose text has these lines.
func of(t *testing.T, lines ...string) *Script {
	t.Helper()
	s := New()
	for _, line := range lines {
		does(t, s, "add "+line, "ok")
	}
	return s
}

// two: lines of a set of two tasks that share a lock.
func two(protocol string) []string {
	return []string{"protocol " + protocol, "cores 1 1", "homes 0", "task a 50 50 1 0 run:2 lock:0:3", "task b 50 50 2 1 lock:0:4 sleep:1"}
}

// protocols: all that there are.
func protocols() []string { return []string{"fair", "agent", "token"} }

// P28.1: no text: nothing that wants a set, or a run, has one.
func TestNew(t *testing.T) {
	for _, s := range []*Script{New(), new(Script)} {
		for range 2 {
			does(t, s, "parse", "line 0 error 10")
			for _, line := range []string{"print", "analyze", "run 5", "run 0 1 2", "judge 5", "judge 0 255"} {
				does(t, s, line, "error 10")
			}
			for _, line := range []string{"jobs", "waits", "check", "late", "phase a", "phase A", "phase 9"} {
				does(t, s, line, "none")
			}
			does(t, s, "clear", "ok")
		}
	}
}

// P28.1: the text line by line; blanks and remarks don't count.
func TestText(t *testing.T) {
	s := New()
	does(t, s, "  add   protocol    token  # one", "ok")
	does(t, s, "parse", "line 1 error 10")
	does(t, s, "add cores 2", "ok")
	does(t, s, "parse", "line 2 error 14")
	does(t, s, "print", "error 14")
	does(t, s, "add task  a 9 8 7 0 run:3#", "ok")
	does(t, s, "parse", "ok")
	does(t, s, "print", "protocol token", "cores 2", "task a 9 8 7 0 run:3")
	does(t, s, "add task b 9 10 6 0 run:3", "ok")
	does(t, s, "parse", "line 3 error 10")
	does(t, s, "analyze", "error 10")
	does(t, s, "clear", "ok")
	does(t, s, "parse", "line 0 error 10")
	for _, line := range two("fair") {
		does(t, s, "add "+line, "ok")
	}
	does(t, s, "print", two("fair")...)
	does(t, s, "add task c 9 9 1 0 run:3", "ok")
	does(t, s, "parse", "line 5 error 17")
	does(t, s, "add task d 9 9 3 0 lock:0:lock:0:1", "ok")
	does(t, s, "parse", "line 6 error 18")
	does(t, s, "run 3", "error 18")
	does(t, s, "judge 3", "error 18")
	// A word that is no line of a text may be added too.
	does(t, s, "clear # all", "ok")
	does(t, s, "add add", "ok")
	does(t, s, "parse", "line 0 error 10")
}

// P28.1: a text of MaxText bytes, and of one more, and of many more; clear takes all of it.
func TestMaxText(t *testing.T) {
	s := of(t, two("fair")...)
	n := len(strings.Join(two("fair"), "\n")) + 1
	// Just as many bytes more as there is room for; none of them is a word of the text.
	does(t, s, "add "+strings.Repeat("\n", api.MaxText-n-1), "ok")
	does(t, s, "parse", "ok")
	does(t, s, "add \n", "ok")
	does(t, s, "parse", "line 0 error 11")
	for range 50 {
		does(t, s, "add "+strings.Repeat("x", 1000), "ok")
		does(t, s, "parse", "line 0 error 11")
	}
	does(t, s, "print", "error 11")
	does(t, s, "clear", "ok")
	does(t, s, "parse", "line 0 error 10")
}

// P28.1: what is told of a set.
func TestAnalyze(t *testing.T) {
	does(t, of(t, two("fair")...), "analyze", "admitted", "a 9 50 7", "b 8 50 7")
	s := of(t, "protocol fair", "cores 1", "task a 9 2 1 0 run:3")
	does(t, s, "analyze", "late")
	does(t, s, "judge 5", "late")
	s = of(t, "protocol fair", "cores 1", "task a 1 1 1 0 run:1", "task b 3000 3000 2 0 run:1")
	does(t, s, "analyze", "unknown")
	does(t, s, "judge 5 7", "unknown")
}

// P28.1: a run, and what is told of it.
func TestRun(t *testing.T) {
	s := of(t, two("fair")...)
	does(t, s, "run 12", "ok 2 2")
	does(t, s, "jobs", "b 0 5", "a 0 7")
	does(t, s, "waits", "b 0 0 0 4", "a 1 2 4 7")
	does(t, s, "check", "yes")
	does(t, s, "late", "0")
	does(t, s, "phase a", "idle")
	// From its beginning on.
	does(t, s, "run 1", "ok 0 0")
	does(t, s, "jobs")
	does(t, s, "waits")
	does(t, s, "phase a", "ready")
	does(t, s, "phase b", "held")
	does(t, s, "run 3", "ok 0 0")
	does(t, s, "phase a", "queued")
	does(t, s, "run 4", "ok 0 1")
	does(t, s, "phase a", "queued")
	does(t, s, "phase b", "asleep")
	does(t, s, "run 5", "ok 1 1")
	does(t, s, "phase a", "held")
	does(t, s, "phase b", "idle")
	does(t, s, "run 0", "ok 0 0")
	does(t, s, "phase a", "idle")
	does(t, s, "check", "yes")
	does(t, s, "late", "0")
}

// P28.1: bytes of the tape; 0 as the first one lets no job come.
func TestTape(t *testing.T) {
	s := of(t, "protocol fair", "cores 1", "task a 20 20 1 0 run:60")
	does(t, s, "run 30 0", "ok 0 0")
	does(t, s, "run 30 1 4", "ok 2 0")
	// 1 + 4 % 60, and again.
	does(t, s, "jobs", "a 0 5", "a 20 25")
	does(t, s, "run 60 1 255", "ok 3 0")
	does(t, s, "jobs", "a 0 16", "a 20 36", "a 40 56")
	does(t, s, "run 9 0 0 1 4", "ok 1 0")
	does(t, s, "jobs", "a 2 7")
	// Longer than its Deadline.
	does(t, s, "run 99 1 19 1 20 1 21", "ok 4 0")
	does(t, s, "jobs", "a 0 20", "a 20 41", "a 41 63", "a 63 83")
	does(t, s, "late", "2")
}

// P28.1: what is told of the last run is none, once the text was changed, and just then.
func TestChangedText(t *testing.T) {
	for _, change := range []string{"clear", "add task c 9 9 3 0 run:1", "add x"} {
		s := of(t, two("token")...)
		does(t, s, "run 12", "ok 2 2")
		for _, line := range []string{"parse", "print", "analyze", "judge 7", "jobs", "phase b", "late"} {
			s.Do(line)
		}
		for _, line := range []string{"phase c", "add", "add #", "run x", "run 3 256", "clear all", "judge", "jobs 3"} {
			refuses(t, s, line)
		}
		does(t, s, "jobs", "b 0 5", "a 0 7")
		does(t, s, change, "ok")
		for _, line := range []string{"jobs", "waits", "check", "late", "phase a", "phase c"} {
			does(t, s, line, "none")
		}
	}
	s := of(t, two("token")...)
	does(t, s, "run 1", "ok 0 0")
	does(t, s, "add x", "ok")
	does(t, s, "run 1", "error 10")
	does(t, s, "jobs", "none")
}

// P28.1: lines that are none.
func TestErrLine(t *testing.T) {
	s := of(t, two("agent")...)
	does(t, s, "run 3", "ok 0 0")
	for _, line := range []string{
		"", "   ", "#", "# clear", "no", "Clear", "clear\n", "\tclear", "add", "add # x", "clear x", "parse x", "print 1", "analyze a", "jobs a", "waits 0",
		"check yes", "late 1", "phase", "phase a b", "phase x", "phase A", "phase 0", "phaseb a",
		"run", "run x", "run -1", "run 01", "run 12345678", "run 1 256", "run 1 -1", "run 1 x", "run 1 00", "run 1 2 3 1000", "run 1 2 x 3", "run 1.5", "run # 3",
		"judge", "judge x", "judge -1", "judge 01", "judge 12345678", "judge 1 256", "judge 1 x", "judge 1 2 3 4 05",
	} {
		refuses(t, s, line)
	}
	// Nothing was changed.
	does(t, s, "print", two("agent")...)
	does(t, s, "phase b", "held")
	// A line that isn't one is none also where there is no set.
	for _, line := range []string{"run x", "judge 1 256", "print it", "phase"} {
		refuses(t, New(), line)
	}
}

// P28.1: N up to what Num reads; of a run MaxTicks at most.
func TestManySteps(t *testing.T) {
	s := of(t, "protocol fair", "cores 1", "task a 1000 1000 1 0 run:1 sleep:1")
	for _, n := range []string{"19999", "20000", "20001", "9999999"} {
		does(t, s, "run "+n, "ok 20 0")
		does(t, s, "check", "yes")
		does(t, s, "judge "+n, "yes")
	}
	does(t, s, "phase a", "idle")
	does(t, s, "run 19001", "ok 19 0")
	does(t, s, "phase a", "asleep")
}

// P28.1: all phases.
func TestPhases(t *testing.T) {
	for _, protocol := range protocols() {
		s := of(t, "protocol "+protocol, "cores 1", "homes 0", "task a 99 99 1 0 run:1 sleep:1 lock:0:2", "task b 99 99 2 0 sleep:1 lock:0:2")
		for n, want := range []string{"idle idle", "asleep queued", "queued held", "queued idle", "held idle", "idle idle"} {
			s.Do("run " + strconv.Itoa(n))
			a, b, _ := strings.Cut(want, " ")
			does(t, s, "phase a", a)
			does(t, s, "phase b", b)
		}
	}
	s := of(t, two("fair")...)
	s.Do("run 1")
	does(t, s, "phase a", "ready")
}

// P28.1: what no run is, as far as is known.
func TestNo(t *testing.T) {
	if yesNo(true) != "yes" || yesNo(false) != "no" {
		t.Errorf("P28.1: %s, %s", yesNo(true), yesNo(false))
	}
}

// anyLines: those of a set, as chance has them.
func anyLines(chance *rand.Rand) []string {
	lines := []string{"protocol " + protocols()[chance.Intn(3)], "cores 1 2", "homes 0 1 1"}
	for prio := range 1 + chance.Intn(4) {
		period := strconv.Itoa(10 + chance.Intn(80))
		line := "task t" + strconv.Itoa(prio) + " " + period + " " + period + " " + strconv.Itoa(prio+1) + " " + strconv.Itoa(chance.Intn(2))
		for range 1 + chance.Intn(4) {
			n := strconv.Itoa(1 + chance.Intn(6))
			line += " " + []string{"run:", "sleep:", "lock:0:", "lock:1:", "lock:2:"}[chance.Intn(5)] + n
		}
		lines = append(lines, line)
	}
	return lines
}

// P28.2, P40.5: a script does what the calls do.
func TestAgainstTheCalls(t *testing.T) {
	chance := rand.New(rand.NewSource(28))
	for range 200 {
		lines := anyLines(chance)
		set, n, e := text.Parse(strings.Join(lines, "\n") + "\n")
		if e != api.OK || n != len(lines) {
			t.Fatalf("Parse(%q): %v", lines, e)
		}
		s := of(t, lines...)
		does(t, s, "parse", "ok")
		does(t, s, "print", words.Lines(text.Print(set))...)
		does(t, s, "print", lines...)
		told, _ := report.Lines(set)
		does(t, s, "analyze", told...)
		b := make([]byte, chance.Intn(9))
		chance.Read(b)
		ticks := chance.Intn(300)
		numbers := " " + strconv.Itoa(ticks)
		for _, x := range b {
			numbers += " " + strconv.Itoa(int(x))
		}
		ok, e := audit.Judge(set, b, ticks)
		switch {
		case e != api.OK:
			does(t, s, "judge"+numbers, report.Word(e))
		case ok:
			does(t, s, "judge"+numbers, "yes")
		default:
			does(t, s, "judge"+numbers, "no")
		}
		asRun(t, s, set, b, ticks, numbers)
	}
}

// asRun: the script's run is exec's.
func asRun(t *testing.T, s *Script, set api.Set, b []byte, ticks int, numbers string) {
	t.Helper()
	x, _ := exec.New(set, b)
	x.Run(ticks)
	tr := x.Trace()
	does(t, s, "run"+numbers, "ok "+strconv.Itoa(len(tr.Jobs))+" "+strconv.Itoa(len(tr.Waits)))
	var jobs, waits []string
	late := 0
	for _, d := range tr.Jobs {
		jobs = append(jobs, set.Tasks[d.Task].Name+" "+strconv.Itoa(d.Release)+" "+strconv.Itoa(d.Finish))
		if delay.Response(d) > set.Tasks[d.Task].Deadline {
			late++
		}
	}
	for _, w := range tr.Waits {
		waits = append(waits, strings.Join([]string{set.Tasks[w.Task].Name, strconv.Itoa(w.Part), strconv.Itoa(w.Ask), strconv.Itoa(w.Got), strconv.Itoa(w.Finish)}, " "))
	}
	does(t, s, "jobs", jobs...)
	does(t, s, "waits", waits...)
	does(t, s, "late", strconv.Itoa(late))
	if !legal.Check(set, tr) {
		t.Errorf("P40.1: %v, %v isn't right", set, b)
	}
	does(t, s, "check", "yes")
	for of, task := range set.Tasks {
		does(t, s, "phase "+task.Name, []string{"", "idle", "ready", "asleep", "queued", "held"}[x.Phase(of)])
	}
}

// P40.5: what can't be parsed is told by its line.
func TestLines(t *testing.T) {
	for at := range two("fair") {
		lines := two("fair")
		lines[at] += " x"
		does(t, of(t, lines...), "parse", "line "+strconv.Itoa(at)+" error 10")
	}
	lines := append(two("fair"), "task c 9 9 3 2 run:1")
	does(t, of(t, lines...), "parse", "line 5 error 16")
	lines[5] = "task c 9 9 3 1 run:61"
	does(t, of(t, lines...), "parse", "line 5 error 15")
	lines[1] = "cores 4"
	does(t, of(t, lines...), "parse", "line 1 error 16")
	for n := range 5 {
		lines[1], lines[5] = "cores 1 1", "task c 9 9 3 1 run:1"
		lines = append(lines, "task d"+strconv.Itoa(n)+" 9 9 "+strconv.Itoa(n+5)+" 1 run:1")
	}
	does(t, of(t, lines...), "parse", "line "+strconv.Itoa(len(lines))+" error 11")
}

// P40.6: whatever the line: it comes back.
func TestAnyLine(t *testing.T) {
	chance := rand.New(rand.NewSource(3))
	vocabulary := []string{"add", "clear", "parse", "print", "analyze", "run", "jobs", "waits", "check", "late", "phase", "judge",
		"protocol", "fair", "cores", "1", "2", "task", "a", "50", "run:3", "lock:0:2", "homes", "0", "#", "\n", "é", "255", "256", "sleep:1", "-1"}
	s := New()
	for range 20000 {
		var l []string
		for range chance.Intn(9) {
			l = append(l, vocabulary[chance.Intn(len(vocabulary))])
		}
		line := strings.Join(l, " ")
		if got, e := s.Do(line); e != api.OK && (e != api.ErrLine || len(got) > 0) {
			t.Fatalf("P28.1: Do(%q): %q, %v", line, got, e)
		}
	}
}

// DOC.md's rules 3 and 6: answers are new memory; no script hangs on another one.
func TestNothingIsShared(t *testing.T) {
	s, other := of(t, two("fair")...), of(t, two("token")...)
	s.Do("run 12")
	for _, line := range []string{"print", "jobs", "waits", "analyze", "check", "parse"} {
		want, _ := s.Do(line)
		want = slices.Clone(want)
		got, _ := s.Do(line)
		clear(got[:cap(got)])
		does(t, s, line, want...)
	}
	does(t, other, "jobs", "none")
	does(t, other, "print", two("token")...)
}
