package watch

import (
	"math/rand"
	"slices"
	"strconv"
	"testing"

	"orchard/api"
	"orchard/path"
	"orchard/pith"
)

// model is a Book by the letter of P11.1 and P11.2: what was added, in no order, and all events
// since each session's last Drop, with what is noted of them.
type model struct {
	watches []Watch
	events  []Event
	noted   map[int]int
}

// before reports whether a watch comes before another, by the letter of P11.1.
func before(a, b Watch) bool {
	if a.Session != b.Session {
		return a.Session < b.Session
	}
	if a.Path != b.Path {
		return a.Path < b.Path
	}
	if a.Kids != b.Kids {
		return !a.Kids
	}
	return !a.Once && b.Once
}

// sorted returns the watches in order.
func (m *model) sorted() []Watch {
	list := slices.Clone(m.watches)
	for i := range list {
		for k := i; k > 0 && before(list[k], list[k-1]); k-- {
			list[k], list[k-1] = list[k-1], list[k]
		}
	}
	return list
}

func (m *model) add(w Watch) api.Errno {
	if w.Session < 1 || w.Session > 1<<48-1 {
		return api.ErrArg
	}
	if path.Check(w.Path) != api.OK {
		return api.ErrPath
	}
	if slices.Contains(m.watches, w) {
		return api.OK
	}
	if len(m.watches) == 40 {
		return api.ErrQuota
	}
	m.watches = append(m.watches, w)
	return api.OK
}

// kind returns the kind of the event of a watch, 0 if there is none.
func kind(w Watch, s string, what What) What {
	if w.Path == s && !w.Kids {
		return what
	}
	if w.Path == s && what == Gone {
		return Gone
	}
	if up, _ := path.Up(s); w.Kids && w.Path == up && what != Set {
		return Below
	}
	return 0
}

func (m *model) fire(s string, what What, when int) {
	for _, w := range m.sorted() {
		k := kind(w, s, what)
		if k == 0 {
			continue
		}
		no := 1
		for _, e := range m.events {
			if e.Session == w.Session {
				no = e.No + 1
			}
		}
		m.events = append(m.events, Event{Session: w.Session, No: no, Path: w.Path, What: k, When: when})
		if w.Once {
			m.watches = slices.DeleteFunc(m.watches, func(o Watch) bool { return o == w })
		}
	}
}

func (m *model) eventsOf(session int) []Event {
	var list []Event
	for _, e := range m.events {
		if e.Session == session && e.No > m.noted[session] {
			list = append(list, e)
		}
	}
	return list
}

func (m *model) note(session, no int) {
	last := 0
	for _, e := range m.events {
		if e.Session == session {
			last = e.No
		}
	}
	m.noted[session] = max(m.noted[session], min(no, last))
}

func (m *model) drop(session int) {
	m.watches = slices.DeleteFunc(m.watches, func(w Watch) bool { return w.Session == session })
	m.events = slices.DeleteFunc(m.events, func(e Event) bool { return e.Session == session })
	delete(m.noted, session)
}

// clone returns an independent copy.
func (m *model) clone() *model {
	c := &model{slices.Clone(m.watches), slices.Clone(m.events), map[int]int{}}
	for session, no := range m.noted {
		c.noted[session] = no
	}
	return c
}

// equals checks that a Book has the watches and events of a model.
func (m *model) equals(t *testing.T, what string, b *Book) {
	t.Helper()
	if got, want := b.Watches(), m.sorted(); !slices.Equal(got, want) {
		t.Fatalf("%s: Watches = %v\nwant %v", what, got, want)
	}
	for session := -1; session < 8; session++ {
		if got, want := b.Events(session), m.eventsOf(session); !slices.Equal(got, want) {
			t.Fatalf("%s: Events(%d) = %v\nwant %v", what, session, got, want)
		}
	}
}

// step makes one call, of a Book and of its model.
func step(t *testing.T, r *rand.Rand, b *Book, m *model, when int) {
	t.Helper()
	list := []string{"/", "/a", "/b", "/a-", "/a/b", "/a/c", "/a/b/c", "a", "/a/"}
	s, session := list[r.Intn(len(list))], r.Intn(9)-1
	switch r.Intn(20) {
	case 0, 1, 2, 3, 4, 5, 6, 7, 8, 9, 10, 11, 12:
		w := Watch{session, s, r.Intn(2) == 0, r.Intn(2) == 0}
		if e, f := b.Add(w), m.add(w); e != f {
			t.Fatalf("%d: Add(%v) = %d, want %d", when, w, e, f)
		}
	case 13, 14, 15, 16:
		if s = list[r.Intn(7)]; when%40 > 30 { // or Once leaves too few watches for the quota
			what := What(r.Intn(4) + 1)
			b.Fire(s, what, when)
			m.fire(s, what, when)
		}
	case 17, 18:
		no := r.Intn(30) - 1
		b.Noted(session, no)
		m.note(session, no)
	case 19:
		if r.Intn(4) == 0 {
			b.Drop(session)
			m.drop(session)
		}
	}
}

// P11.1, P11.2, P11.3: whatever is called, a Book answers as its model does, and so do its copies.
func TestModel(t *testing.T) {
	for seed := range 20 {
		r := rand.New(rand.NewSource(int64(seed)))
		b, m := New(), &model{noted: map[int]int{}}
		for when := range 400 {
			step(t, r, b, m, when)
			m.equals(t, "after "+strconv.Itoa(when), b)
			if when%20 == 0 {
				c, k := b.Clone(), m.clone()
				d, l := Read(pith.Read(string(b.Lay(nil)))), m.clone()
				m.equals(t, "read", d)
				for range 5 {
					step(t, r, c, k, when)
					step(t, r, d, l, when+15)
				}
				k.equals(t, "the copy", c)
				l.equals(t, "read, and changed", d)
				m.equals(t, "copied", b)
			}
		}
	}
}
