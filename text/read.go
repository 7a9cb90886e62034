package text

import (
	"strings"

	"swingbridge/api"
	"swingbridge/words"
)

// Which line may come next.
const (
	wantProtocol = iota
	wantCores
	wantHomes // or a task
	wantTask
)

// reader keeps what has been read, and which line that of the cores and of each task is.
type reader struct {
	set   api.Set
	want  int
	cores int
	tasks []int
}

// readAll reads the lines up to the first one that isn't so, and tells which one that is.
func readAll(lines []string) (reader, int, api.Errno) {
	var r reader
	for at, line := range lines {
		l := words.Words(line)
		if len(l) == 0 {
			continue
		}
		if e := r.read(at, l); e != api.OK {
			return r, at, e
		}
	}
	if r.want < wantHomes {
		return r, len(lines), api.ErrForm
	}
	return r, len(lines), api.OK
}

// read reads a line of one word at least.
func (r *reader) read(at int, l []string) api.Errno {
	head, rest := l[0], l[1:]
	ok := false
	switch {
	case head == "protocol" && r.want == wantProtocol:
		r.want = wantCores
		r.set.Protocol, ok = protocolOf(rest)
	case head == "cores" && r.want == wantCores:
		r.want, r.cores = wantHomes, at
		r.set.Cores, ok = someNumbers(rest)
	case head == "homes" && r.want == wantHomes:
		r.want = wantTask
		r.set.Homes, ok = someNumbers(rest)
	case head == "task" && r.want >= wantHomes:
		r.want, r.tasks = wantTask, append(r.tasks, at)
		return r.readTask(rest)
	}
	if !ok {
		return api.ErrForm
	}
	return api.OK
}

// readTask reads what stands behind the first word of a task's line.
func (r *reader) readTask(l []string) api.Errno {
	// A lock within a lock is told wherever it stands, also behind a word that is wrong.
	if anyNested(l) {
		return api.ErrNested
	}
	const heads = 5 // the name, and four numbers
	if len(l) < heads {
		return api.ErrForm
	}
	n, ok := numbers(l[1:heads])
	if !ok {
		return api.ErrForm
	}
	parts, ok := partsOf(l[heads:])
	if !ok {
		return api.ErrForm
	}
	r.set.Tasks = append(r.set.Tasks, api.Task{Name: l[0], Period: n[0], Deadline: n[1], Prio: n[2], Cluster: n[3], Parts: parts})
	return api.OK
}

// anyNested tells whether one of the words is a lock that has a lock behind.
func anyNested(l []string) bool {
	found := false
looking:
	for _, word := range l {
		behind, isLock := strings.CutPrefix(word, "lock:")
		if isLock && strings.Contains(behind, "lock:") {
			found = true
			break looking
		}
	}
	return found
}

// protocolOf tells the protocol that is the only word of l.
func protocolOf(l []string) (int, bool) {
	if len(l) != 1 {
		return 0, false
	}
	switch l[0] {
	case "fair":
		return api.Fair, true
	case "agent":
		return api.Agent, true
	case "token":
		return api.Token, true
	}
	return 0, false
}

// someNumbers tells the numbers that the words are, if there is one at least.
func someNumbers(l []string) ([]int, bool) {
	n, ok := numbers(l)
	return n, ok && len(n) > 0
}

// numbers tells the numbers that the words are, if all are some.
func numbers(l []string) ([]int, bool) {
	var all []int
reading:
	for _, word := range l {
		n, ok := words.Num(word)
		if !ok {
			break reading
		}
		all = append(all, n)
	}
	return all, len(all) == len(l)
}

// partsOf tells the parts that the words are, if all are some.
func partsOf(l []string) ([]api.Part, bool) {
	var parts []api.Part
reading:
	for _, word := range l {
		p, ok := partOf(word)
		if !ok {
			break reading
		}
		parts = append(parts, p)
	}
	return parts, len(parts) == len(l)
}

// partOf tells the part that a word is.
func partOf(word string) (api.Part, bool) {
	kind, rest, _ := strings.Cut(word, ":")
	n, ok := numbers(strings.Split(rest, ":"))
	switch {
	case !ok:
		return api.Part{}, false
	case kind == "run" && len(n) == 1:
		return api.Part{Kind: api.Run, Len: n[0]}, true
	case kind == "sleep" && len(n) == 1:
		return api.Part{Kind: api.Sleep, Len: n[0]}, true
	case kind == "lock" && len(n) == 2:
		return api.Part{Kind: api.Lock, Res: n[0], Len: n[1]}, true
	}
	return api.Part{}, false
}
