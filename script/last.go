package script

import (
	"swingbridge/api"
	"swingbridge/delay"
	"swingbridge/exec"
	"swingbridge/legal"
	"swingbridge/words"
)

// lastRun is a run, and the set of which it is one.
type lastRun struct {
	set  api.Set
	exec *exec.Exec
}

// jobs tells a line for each job that is done.
func jobs(r *lastRun) []string {
	var lines []string
	for _, d := range r.exec.Trace().Jobs {
		lines = append(lines, row(r.set.Tasks[d.Task].Name, d.Release, d.Finish))
	}
	return lines
}

// waits tells a line for each lock that is done with.
func waits(r *lastRun) []string {
	var lines []string
	for _, w := range r.exec.Trace().Waits {
		lines = append(lines, row(r.set.Tasks[w.Task].Name, w.Part, w.Ask, w.Got, w.Finish))
	}
	return lines
}

// check tells whether the run is right.
func check(r *lastRun) []string { return []string{yesNo(legal.Check(r.set, r.exec.Trace()))} }

// late tells how many jobs took longer than they may.
func late(r *lastRun) []string {
	n := 0
	for _, d := range r.exec.Trace().Jobs {
		if delay.Response(d) > r.set.Tasks[d.Task].Deadline {
			n++
		}
	}
	return []string{words.Text(n)}
}

// phaseWord tells a phase as a word.
func phaseWord(phase int) string {
	switch phase {
	case api.Idle:
		return "idle"
	case api.Ready:
		return "ready"
	case api.Asleep:
		return "asleep"
	case api.Queued:
		return "queued"
	}
	return "held"
}
