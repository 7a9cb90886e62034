package exec

import (
	"swingbridge/api"
	"swingbridge/job"
)

// seats of a task: its job has the one of its phase; while it is idle none is taken.
type seats struct{ ready, asleep, queued, held chan *job.Job }

// newSeats makes seats of which none is taken; as there is one job at most, putting it never waits.
func newSeats() seats {
	seat := func() chan *job.Job { return make(chan *job.Job, 1) }
	return seats{ready: seat(), asleep: seat(), queued: seat(), held: seat()}
}

// take tells the phase, and the job, which leaves its seat.
func (s seats) take() (int, *job.Job) {
	// One seat is taken at most: no two are ready at once.
	select {
	case j := <-s.ready:
		return api.Ready, j
	case j := <-s.asleep:
		return api.Asleep, j
	case j := <-s.queued:
		return api.Queued, j
	case j := <-s.held:
		return api.Held, j
	default:
		return api.Idle, nil
	}
}

// put lets j take the seat of that phase; Idle has none.
func (s seats) put(phase int, j *job.Job) {
	switch phase {
	case api.Ready:
		s.ready <- j
	case api.Asleep:
		s.asleep <- j
	case api.Queued:
		s.queued <- j
	case api.Held:
		s.held <- j
	}
}

// look tells the phase, and the job, which keeps its seat.
func (s seats) look() (int, *job.Job) {
	phase, j := s.take()
	s.put(phase, j)
	return phase, j
}

// phase tells the one whose seat is taken.
func (s seats) phase() int {
	phase, _ := s.look()
	return phase
}

// begin lets j take the seat of the part that it is at; a lock has to be asked for first.
func (s seats) begin(j *job.Job) {
	switch j.Kind() {
	case api.Run:
		s.ready <- j
	case api.Sleep:
		s.asleep <- j
	case api.Lock:
		s.queued <- j
	}
}

// hold lets the job that is queued hold.
func (s seats) hold() { s.held <- <-s.queued }
