package agenda

import (
	"cmp"

	"jurat/api"
)

// queue is a heap of entries: its methods are those that package container/heap asks for. It stands apart from
// Agenda, so that nobody else moves an entry.
type queue struct {
	entries []api.Entry
	places  map[int]int // of each ID the place in entries: else Put, Drop and At had to look at all of them
}

// Len is how many entries there are.
func (q *queue) Len() int { return len(q.entries) }

// Less tells whether the entry at i is ahead of the one at j, in order.
func (q *queue) Less(i, j int) bool {
	a, b := q.entries[i], q.entries[j]
	return cmp.Or(cmp.Compare(a.At, b.At), cmp.Compare(a.ID, b.ID)) < 0
}

// Swap has two entries change places.
func (q *queue) Swap(i, j int) {
	q.entries[i], q.entries[j] = q.entries[j], q.entries[i]
	q.places[q.entries[i].ID] = i
	q.places[q.entries[j].ID] = j
}

// Push puts an entry behind all others.
func (q *queue) Push(x any) {
	e := x.(api.Entry)
	q.places[e.ID] = len(q.entries)
	q.entries = append(q.entries, e)
}

// Pop takes the last entry away.
func (q *queue) Pop() any {
	last := len(q.entries) - 1
	e := q.entries[last]
	q.entries = q.entries[:last]
	delete(q.places, e.ID)
	return e
}
