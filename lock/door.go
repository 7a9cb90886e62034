package lock

import (
	"swingbridge/api"
	"swingbridge/gate"
	"swingbridge/line"
)

// door of a cluster, by protocol Token: as many as it has cores are in, the others stand outside.
// These stand in a line of their own, since a gate lets the first one in as soon as there is room.
type door struct {
	cores   int
	in      *gate.Gate
	outside *line.Line
}

// newDoor makes a door at which nobody stands.
func newDoor(cores int) door {
	return door{cores: cores, in: gate.New(cores), outside: line.New(api.MaxTasks)}
}

// ask lets id stand outside, behind all.
func (d door) ask(id int) { d.outside.Put(id) }

// enter tells who comes in, the first ones of those outside, as long as there is room.
func (d door) enter() []int {
	var entered []int
entering:
	for len(d.in.In()) < d.cores {
		id, e := d.outside.Take()
		if e != api.OK {
			break entering
		}
		d.in.Ask(id)
		entered = append(entered, id)
	}
	return entered
}

// leave lets id go, wherever it stands, if it does.
func (d door) leave(id int) {
	d.in.Leave(id)
	d.outside.Drop(id)
}
