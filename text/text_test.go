package text

import (
	"strings"
	"testing"

	"swingbridge/api"
	"swingbridge/task"
)

// good: a set that task's Check tells OK, with all kinds of parts, and its text.
func good() api.Set {
	return api.Set{Protocol: api.Token, Cores: []int{1, 3}, Homes: []int{0, 1, 1}, Tasks: []api.Task{
		{Name: "a", Period: 10, Deadline: 9, Prio: 1, Cluster: 0, Parts: []api.Part{{Kind: api.Run, Len: 3}}},
		{Name: "abcdefg2", Period: 3000, Deadline: 1, Prio: 1000, Cluster: 1, Parts: []api.Part{
			{Kind: api.Run, Len: 1}, {Kind: api.Sleep, Len: 60}, {Kind: api.Lock, Len: 50, Res: 2}, {Kind: api.Lock, Len: 1}}},
	}}
}

const goodText = "protocol token\ncores 1 3\nhomes 0 1 1\n" +
	"task a 10 9 1 0 run:3\ntask abcdefg2 3000 1 1000 1 run:1 sleep:60 lock:2:50 lock:0:1\n"

// P9.1: the lines, word by word.
func TestPrint(t *testing.T) {
	if got := Print(good()); got != goodText {
		t.Errorf("P9.1: %q", got)
	}
	for _, c := range []struct {
		protocol int
		want     string
	}{
		{api.Fair, "protocol fair\ncores 2\ntask z 1 1 7 0 sleep:1\n"},
		{api.Agent, "protocol agent\ncores 2\ntask z 1 1 7 0 sleep:1\n"},
		{api.Token, "protocol token\ncores 2\ntask z 1 1 7 0 sleep:1\n"},
	} {
		s := api.Set{Protocol: c.protocol, Cores: []int{2}, Tasks: []api.Task{
			{Name: "z", Period: 1, Deadline: 1, Prio: 7, Parts: []api.Part{{Kind: api.Sleep, Len: 1}}}}}
		if got := Print(s); got != c.want {
			t.Errorf("P9.1: %q, not %q", got, c.want)
		}
	}
}

// P9.1: nothing of what task's Check errs.
func TestPrintOfErrors(t *testing.T) {
	for what, change := range map[string]func(*api.Set){
		"protocol": func(s *api.Set) { s.Protocol = 0 },
		"cores":    func(s *api.Set) { s.Cores = nil },
		"homes":    func(s *api.Set) { s.Homes[0] = 2 },
		"no task":  func(s *api.Set) { s.Tasks = nil },
		"name":     func(s *api.Set) { s.Tasks[1].Name = "" },
		"part":     func(s *api.Set) { s.Tasks[1].Parts[3].Res = 3 },
	} {
		s := good()
		change(&s)
		if got := Print(s); got != "" {
			t.Errorf("P9.1: %s: %q", what, got)
		}
	}
}

// parses: Parse(s) tells just that set.
func parses(t *testing.T, s string, want api.Set, lines int) {
	t.Helper()
	if got, n, e := Parse(s); !task.Same(got, want) || n != lines || e != api.OK {
		t.Errorf("P9.2: %q: %v, %d, %v, not %v, %d", s, got, n, e, want, lines)
	}
}

// fails: Parse(s) tells just that line and error, and no set.
func fails(t *testing.T, s string, line int, want api.Errno) {
	t.Helper()
	got, n, e := Parse(s)
	if n != line || e != want {
		t.Errorf("P9.2: %q: %d, %v, not %d, %v", s, n, e, line, want)
	}
	if !task.Same(got, api.Set{}) {
		t.Errorf("P9.2: %q: beside an error %v", s, got)
	}
}

// P9.2: blanks, lines without words and what stands behind a # count for nothing but their lines.
func TestParse(t *testing.T) {
	parses(t, goodText, good(), 5)
	parses(t, strings.TrimSuffix(goodText, "\n"), good(), 5)
	parses(t, strings.ReplaceAll(goodText, " ", "   "), good(), 5)
	parses(t, "  "+strings.ReplaceAll(goodText, "\n", "  \n  "), good(), 6)
	parses(t, "\n#x\n"+strings.ReplaceAll(goodText, "\n", "# x\n\n \n")+"\n\n", good(), 19)
	parses(t, strings.ReplaceAll(goodText, "\n", "#\n"), good(), 5)
	one := api.Set{Protocol: api.Fair, Cores: []int{1}, Tasks: []api.Task{
		{Name: "a", Period: 10, Deadline: 10, Prio: 1, Parts: []api.Part{{Kind: api.Run, Len: 2}}}}}
	parses(t, "protocol fair\ncores 1\ntask a 10 10 1 0 run:2", one, 3)
	one.Protocol, one.Homes = api.Agent, []int{0}
	parses(t, "protocol agent\ncores 1\nhomes 0\ntask a 10 10 1 0 run:2", one, 4)
}

// P9.2: MaxText bytes, and one more.
func TestParseLarge(t *testing.T) {
	full := goodText + strings.Repeat(" ", api.MaxText-len(goodText))
	parses(t, full, good(), 6)
	fails(t, full+" ", 0, api.ErrLarge)
	fails(t, strings.Repeat("x\n", api.MaxText), 0, api.ErrLarge)
	fails(t, strings.Repeat("\n", api.MaxText), api.MaxText, api.ErrForm)
}

// with: the text of good with the line at a place in this form.
func with(at int, line string) string {
	l := strings.Split(goodText, "\n")
	l[at] = line
	return strings.Join(l, "\n")
}

// P9.2: each line as Print's; the first one that isn't so is told.
func TestParseForm(t *testing.T) {
	for at, lines := range [][]string{
		{"protocol", "protocol x", "protocol Fair", "protocol 1", "protocol fair fair", "protocol fair 1", "Protocol fair", "protocols fair", "fair",
			"cores 1 3", "homes 0 1 1", "task a 10 9 1 0 run:3", "protocol\tfair", "protocol fair\r"},
		{"cores", "cores x", "cores 1 x", "cores 01", "cores -1", "cores 1,3", "cores 10000000", "core 1", "1 3", "cores\t1",
			"protocol token", "homes 0 1 1", "task a 10 9 1 0 run:3"},
		{"homes", "homes x", "homes 0 1 x", "homes 00", "homes -1", "home 0 1 1", "0 1 1", "homes 0 1 1\r", "protocol token", "cores 1 3"},
		{"task", "task a", "task a 10 9 1", "task a 10 9 1 x", "task a x 9 1 0 run:3", "task a 10 x 1 0 run:3", "task a 10 9 x 0 run:3",
			"task a 10 9 -1 0 run:3", "task a 10 9 1 0 0 run:3", "task a 10 9 1 run:3", "task 10 9 1 0 run:3", "tasks a 10 9 1 0 run:3",
			"a 10 9 1 0 run:3", "task a 10 09 1 0 run:3", "task a 10 10000000 1 0 run:3",
			"protocol token", "cores 1 3", "homes 0 1 1"},
		{"task b 10 9 2 0 run", "task b 10 9 2 0 run:", "task b 10 9 2 0 run:x", "task b 10 9 2 0 run:01", "task b 10 9 2 0 run:-1", "task b 10 9 2 0 run:1:",
			"task b 10 9 2 0 run:1:2", "task b 10 9 2 0 run::1", "task b 10 9 2 0 :1", "task b 10 9 2 0 Run:1", "task b 10 9 2 0 running:1", "task b 10 9 2 0 1",
			"task b 10 9 2 0 sleep", "task b 10 9 2 0 sleep:", "task b 10 9 2 0 sleep:x", "task b 10 9 2 0 sleep:0:1", "task b 10 9 2 0 sleep:10000000",
			"task b 10 9 2 0 lock", "task b 10 9 2 0 lock:", "task b 10 9 2 0 lock:0", "task b 10 9 2 0 lock:0:", "task b 10 9 2 0 lock::1", "task b 10 9 2 0 lock:0:x",
			"task b 10 9 2 0 lock:x:1", "task b 10 9 2 0 lock:0:1:2", "task b 10 9 2 0 lock:0:1:", "task b 10 9 2 0 lock:0:01", "task b 10 9 2 0 lock 0:1",
			"task b 10 9 2 0 run:1 x", "task b 10 9 2 0 x run:1", "task b 10 9 2 0 run:1\t", "task b 10 9 2 0 run: 1",
			"protocol token", "cores 1 3", "homes 0 1 1", "x"},
	} {
		for _, line := range lines {
			fails(t, with(at, line), at, api.ErrForm)
			fails(t, "\n"+with(at, line)+"\nx", at+1, api.ErrForm)
		}
	}
}

// P9.2: a line that lacks is told by how many lines there are.
func TestParseOfLacks(t *testing.T) {
	for _, c := range []struct {
		s    string
		line int
		e    api.Errno
	}{
		{"", 0, api.ErrForm},
		{" ", 1, api.ErrForm},
		{"\n\n", 2, api.ErrForm},
		{"# protocol fair", 1, api.ErrForm},
		{"protocol fair", 1, api.ErrForm},
		{"protocol fair\n\n\n", 3, api.ErrForm},
		{"protocol fair\ntask a 10 10 1 0 run:1", 1, api.ErrForm},
		{"protocol fair\nhomes 0\n", 1, api.ErrForm},
		{"cores 1\ntask a 10 10 1 0 run:1", 0, api.ErrForm},
		{"task a 10 10 1 0 run:1", 0, api.ErrForm},
		{"protocol fair\ncores 1", 2, api.ErrTask},
		{"protocol fair\ncores 1\n\n", 3, api.ErrTask},
		{"protocol fair\ncores 1\nhomes 0\n# task\n", 4, api.ErrTask},
	} {
		fails(t, c.s, c.line, c.e)
	}
}

// P9.2: a lock within a lock, whatever else is wrong with its line; but not where another line is wrong ahead.
func TestParseNested(t *testing.T) {
	for _, line := range []string{
		"task b 10 9 2 0 lock:0:lock:1:2",
		"task b 10 9 2 0 lock:lock:0:2",
		"task b 10 9 2 0 lock:lock:",
		"task b 10 9 2 0 lock:0:2lock:",
		"task b 10 9 2 0 lock:0:lock:1:lock:1:2",
		"task b 10 9 2 0 run:1 lock:0:1 lock:0:lock:1:2 run:1",
		"task b 10 9 2 0 x lock:0:lock:1:2",
		"task b 10 9 2 0 lock:0:lock:1:2 x",
		"task b x 9 2 0 lock:0:lock:1:2",
		"task b 10 lock:0:lock:1:2",
		"task lock:lock: 10 9 2 0 run:1",
	} {
		fails(t, with(4, line), 4, api.ErrNested)
		fails(t, with(4, line)+"x", 4, api.ErrNested)
		fails(t, with(0, line), 0, api.ErrForm)
		fails(t, with(1, line), 1, api.ErrForm)
		fails(t, strings.Replace(with(4, line), "run:3", "x", 1), 3, api.ErrForm)
		fails(t, strings.Replace(with(4, line), "cores 1 3", "cores 9", 1), 4, api.ErrNested)
	}
	for _, line := range []string{
		"task b 10 9 2 0 xlock:0:lock:1:2",
		"task b 10 9 2 0 run:lock:0:1",
		"task b 10 9 2 0 run:lock:lock:0:1",
		"task b 10 9 2 0 lock:0:lock",
		"task b 10 9 2 0 lock:0:Lock:1",
		"task b 10 9 2 0 lock:0:loc k:1",
		"task b 10 9 2 0 lock:0 lock:1:2",
		"task b 10 9 2 0 lock:0: lock:1:2",
		"x lock:0:lock:1:2",
		"homes lock:0:lock:1:2",
	} {
		fails(t, with(4, line), 4, api.ErrForm)
	}
}

// P9.2: task's Check, by the line of the task; of none by that of cores, or by how many lines there are.
func TestParseChecks(t *testing.T) {
	for _, c := range []struct {
		at   int
		line string
		want int
		e    api.Errno
	}{
		{1, "cores 0 3", 3, api.ErrPlace},
		{1, "cores 1 4", 3, api.ErrPlace},
		{1, "cores 1 1 1 1", 3, api.ErrPlace},
		{1, "cores 9999999", 3, api.ErrPlace},
		{2, "homes 0 1 2", 3, api.ErrPlace},
		{2, "homes 0 0 0 0 0", 3, api.ErrPlace},
		{3, "task A 10 9 1 0 run:3", 7, api.ErrForm},
		{3, "task abcdefghi 10 9 1 0 run:3", 7, api.ErrForm},
		{3, "task a 0 9 1 0 run:3", 7, api.ErrForm},
		{3, "task a 10 11 1 0 run:3", 7, api.ErrForm},
		{3, "task a 10 9 0 0 run:3", 7, api.ErrForm},
		{3, "task a 10 9 1001 0 run:3", 7, api.ErrForm},
		{3, "task a 10 9 1 2 run:3", 7, api.ErrPlace},
		{3, "task a 10 9 1 0", 7, api.ErrPart},
		{3, "task a 10 9 1 0 run:0", 7, api.ErrPart},
		{3, "task a 10 9 1 0 run:61", 7, api.ErrPart},
		{3, "task a 10 9 1 0 lock:3:1", 7, api.ErrPart},
		{3, "task a 10 9 1 0" + strings.Repeat(" run:1", 7), 7, api.ErrPart},
		{4, "task a 10 9 2 0 run:3", 9, api.ErrTwice},
		{4, "task b 10 9 1 0 run:3", 9, api.ErrTwice},
		{4, "task b 10 9 2 0", 9, api.ErrPart},
	} {
		// Lines without words lie between: it is the line that is told, not which task.
		fails(t, "\n"+strings.ReplaceAll(with(c.at, c.line), "\n", "\n\n"), c.want, c.e)
	}
	many := strings.Repeat("\ntask c 1 1 1 0 run:1", 7)
	fails(t, "protocol fair\ncores 1"+many+"\n\n", 10, api.ErrLarge)
	fails(t, "protocol fair\ncores 1"+many+"\nx", 9, api.ErrForm)
	fails(t, "protocol fair\ncores 4"+many, 1, api.ErrPlace)
}

// P9.2: a line that isn't so is told ahead of what task's Check errs, wherever it stands.
func TestParseFormAheadOfCheck(t *testing.T) {
	fails(t, with(1, "cores 9")+"x", 5, api.ErrForm)
	fails(t, with(3, "task A 0 9 1 0")+"task", 5, api.ErrForm)
}

// P9.3, P40.5: what is printed is parsed the same, at all edges.
func TestWhatIsPrintedIsParsed(t *testing.T) {
	for _, protocol := range []int{api.Fair, api.Agent, api.Token} {
		for clusters := 1; clusters <= api.MaxClusters; clusters++ {
			for resources := range api.MaxRes + 1 {
				for tasks := 1; tasks <= api.MaxTasks; tasks++ {
					s := made(protocol, clusters, resources, tasks)
					parses(t, Print(s), s, strings.Count(Print(s), "\n"))
				}
			}
		}
	}
}

// made: a set of so many of each, with numbers that differ.
func made(protocol, clusters, resources, tasks int) api.Set {
	s := api.Set{Protocol: protocol}
	for i := range clusters {
		s.Cores = append(s.Cores, 1+(i+tasks)%api.MaxCores)
	}
	for i := range resources {
		s.Homes = append(s.Homes, (i+tasks)%clusters)
	}
	for i := range tasks {
		t := api.Task{Name: "abcdefg" + string(rune('0'+i)), Period: api.MaxPeriod - i, Deadline: 1 + 7*i, Prio: 1000 - i, Cluster: i % clusters}
		for k := range 1 + (i+resources)%api.MaxSegs {
			p := api.Part{Kind: 1 + (i+k)%3, Len: api.MaxLen - k}
			if p.Kind == api.Lock && resources == 0 {
				p.Kind = api.Sleep
			}
			if p.Kind == api.Lock {
				p.Res = (i + k) % resources
			}
			t.Parts = append(t.Parts, p)
		}
		s.Tasks = append(s.Tasks, t)
	}
	return s
}

// DOC.md's rule 3: what is answered is new each time, what is handed in is not changed.
func TestAnswersAreNew(t *testing.T) {
	a, _, _ := Parse(goodText)
	b, _, _ := Parse(goodText)
	for _, x := range b.Tasks[:cap(b.Tasks)] {
		clear(x.Parts[:cap(x.Parts)])
	}
	clear(b.Cores[:cap(b.Cores)])
	clear(b.Homes[:cap(b.Homes)])
	clear(b.Tasks[:cap(b.Tasks)])
	if !task.Same(a, good()) {
		t.Errorf("an answer was touched: %v", a)
	}
	s := good()
	Print(s)
	if !task.Same(s, good()) {
		t.Errorf("Print changed its set: %v", s)
	}
}

// P9.2, P40.6: whatever is handed over, Parse comes back; what it takes is what Print prints.
func FuzzParse(f *testing.F) {
	f.Add(goodText)
	f.Add(with(4, "task b 10 9 2 0 lock:0:lock:1:2"))
	f.Add("protocol fair\ncores 1\ntask a 1 1 1 0 run:1 # x\n\n")
	f.Add("\xff\x00\n: ::")
	f.Fuzz(func(t *testing.T, s string) {
		got, _, e := Parse(s)
		if e != api.OK {
			if !task.Same(got, api.Set{}) {
				t.Errorf("beside an error: %v", got)
			}
			return
		}
		again, _, e := Parse(Print(got))
		if e != api.OK || !task.Same(again, got) {
			t.Errorf("P9.3: %q: %v, %v", s, again, e)
		}
	})
}
