package net

import "orchard/msg"

// flight is a message in transit, the time when it is due, and its number in the order of sending.
type flight struct {
	due int
	no  int
	m   msg.Msg
}

// transit is a heap of messages, in the form that package container/heap works on; the first one is due first.
type transit []*flight

func (t transit) Len() int { return len(t) }

// Less orders by the number too: a heap alone does not keep the order of messages that are due at the same time.
func (t transit) Less(i, j int) bool {
	if t[i].due != t[j].due {
		return t[i].due < t[j].due
	}
	return t[i].no < t[j].no
}

func (t transit) Swap(i, j int) { t[i], t[j] = t[j], t[i] }

// Push appends a flight for container/heap, which then moves it to its place.
func (t *transit) Push(x any) { *t = append(*t, x.(*flight)) }

// Pop removes the last flight, where container/heap has put the one that is to be removed.
// The capacity is cut off too: the next Push takes new memory, so that what many messages took is not kept for ever.
func (t *transit) Pop() any {
	old := *t
	last := len(old) - 1
	f := old[last]
	old[last] = nil
	*t = old[:last:last]
	return f
}
