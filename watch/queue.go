package watch

import (
	"slices"

	"kiln/api"
)

// Queue is where the events of edits wait: a few names, and a mark that there were more.
type Queue struct {
	names []string
	lost  bool
}

// Add is an event of a name. One that waits already tells enough.
func (q *Queue) Add(name string) {
	if slices.Contains(q.names, name) {
		return
	}
	if len(q.names) >= api.MaxEvents {
		q.lost = true
		return
	}
	q.names = append(q.names, name)
}

// Waits tells whether there was an event since the queue was emptied, be it a lost one.
func (q *Queue) Waits() bool {
	return len(q.names) > 0 || q.lost
}

// Names tells the names that wait, the one that came first ahead, in a list of the caller's own.
func (q *Queue) Names() []string {
	return slices.Clone(q.names)
}

// Lost tells whether there was an event that found no room since the queue was emptied.
func (q *Queue) Lost() bool {
	return q.lost
}

// Empty takes all events out, and the mark away.
func (q *Queue) Empty() {
	*q = Queue{}
}
