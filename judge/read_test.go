package judge

import (
	"fmt"
	"math"
	"slices"
	"testing"

	"orchard/api"
	"orchard/op"
	"orchard/replica"
	"orchard/tree"
	"orchard/watch"
)

// written returns a history of a tree that changes with each entry.
func written(t *testing.T) *history {
	t.Helper()
	return newHistory(t, open(1), create(1, "/a"), create(1, "/a/b"), create(1, "/a/c"), set(1, "/a", "x"), set(1, "/a", "y"),
		op.Made(1, 0, op.Op{Does: op.Delete, Path: "/a/b", Version: -1}), synced(1),
		op.Made(1, 0, op.Op{Does: op.Create, Path: "/a/e", Own: true}), closed(1))
}

// P20.2: ErrUnavail is always right, whatever else is there.
func TestReadUnavailable(t *testing.T) {
	h := written(t)
	for _, at := range []int{math.MinInt, -1, 0, 3, 10, 11, math.MaxInt} {
		for _, least := range []int{math.MinInt, -1, 0, 3, 10, 11, math.MaxInt} {
			for _, s := range []string{"/", "/a", "/q", "", "a"} {
				j := h.judge(t, 10)
				a := replica.Reply{E: api.ErrUnavail, At: at, Node: tree.Node{Data: "q"}, Kids: []string{"q"}}
				say(t, j, j.Read(s, a, least), true)
				is(t, j, 10, 0, false)
			}
		}
	}
}

// P20.2: an At below, at and above least, and Known.
func TestReadAt(t *testing.T) {
	h := written(t)
	for known := range 11 {
		for at := range 11 {
			for least := -1; least <= 12; least++ {
				for _, s := range []string{"/", "/a", "/a/b", "/a/c", "/q", "", "a", "/a/"} {
					j := h.judge(t, known)
					say(t, j, j.Read(s, h.node(s, at), least), at >= least, s, known, at, least)
					is(t, j, known, 0, at < least)
					a := h.node(s, at)
					a.Node.Data += "q"
					j = h.judge(t, known)
					say(t, j, j.Read(s, a, least), at >= least && at > known, s, known, at, least)
					is(t, j, known, 0, at < least || at <= known)
				}
			}
		}
	}
	j := h.judge(t, 10)
	say(t, j, j.Read("/", replica.Reply{At: math.MaxInt}, math.MaxInt), true)
	say(t, j, j.Read("/", replica.Reply{At: 11}, math.MinInt), true)
	say(t, j, j.Read("/", replica.Reply{At: math.MinInt}, math.MinInt+1), false)
}

// P20.2: an At below 0 is that of no entries.
func TestReadBelow(t *testing.T) {
	h := written(t)
	for _, at := range []int{-1, -2, -15, -16, -17, -1000, math.MinInt} {
		for _, s := range []string{"/", "/a", "", "a"} {
			for known := range 11 {
				j, a := h.judge(t, known), h.node(s, 0)
				a.At = at
				say(t, j, j.Read(s, a, math.MinInt), true, s, at)
				say(t, j, j.Read(s, a, at), true, s, at)
				is(t, j, known, 0, false)
				a.Node.Version++
				say(t, j, j.Read(s, a, at), false, s, at)
				say(t, j, j.Read(s, h.node(s, 0), 1), false, s, at)
			}
		}
	}
}

// P20.2: each state has its answers alone.
func TestReadStates(t *testing.T) {
	h := written(t)
	for at := range 11 {
		for other := range 11 {
			for _, s := range []string{"/", "/a", "/a/b", "/a/c", "/a/e", "a"} {
				x, y := h.node(s, at), h.node(s, other)
				same := x.E == y.E && x.Node == y.Node && slices.Equal(x.Kids, y.Kids)
				y.At = at
				j := h.judge(t, 10)
				say(t, j, j.Read(s, y, 0), same, s, at, other)
			}
		}
	}
}

// P20.2: Node, E and Kids must be those of the node, in all that they consist of.
func TestReadParts(t *testing.T) {
	h := written(t)
	for at := range 11 {
		for _, s := range []string{"/", "/a", "/a/b", "/a/c", "/a/e", "/q", "", "a"} {
			for i, change := range []func(a *replica.Reply){
				func(a *replica.Reply) { a.Node.Data += "x" },
				func(a *replica.Reply) { a.Node.Version++ },
				func(a *replica.Reply) { a.Node.Below++ },
				func(a *replica.Reply) { a.Node.Owner++ },
				func(a *replica.Reply) { a.Node.Made++ },
				func(a *replica.Reply) { a.Node.Set++ },
				func(a *replica.Reply) { a.Node.Serial++ },
				func(a *replica.Reply) { a.Kids = append(a.Kids, "x") },
				func(a *replica.Reply) { a.Kids = append([]string{""}, a.Kids...) },
				func(a *replica.Reply) { a.Kids = slices.Concat(a.Kids, a.Kids, []string{"b", "b"}) },
			} {
				j, a := h.judge(t, 10), h.node(s, at)
				say(t, j, j.Read(s, a, 0), true, s, at)
				change(&a)
				say(t, j, j.Read(s, a, 0), false, s, at, i)
			}
			for _, e := range append(errnos, api.OK) {
				j, a := h.judge(t, 10), h.node(s, at)
				was := a.E
				a.E = e
				say(t, j, j.Read(s, a, 0), e == was || e == api.ErrUnavail, s, at, e)
			}
			// What else is in an answer is not compared.
			j, a := h.judge(t, 10), h.node(s, at)
			a.Result, a.Events, a.Lead = op.Result{E: 9, When: 99}, make([]watch.Event, 2), 99
			say(t, j, j.Read(s, a, 0), true)
			is(t, j, 10, 0, false)
		}
	}
	j, a := h.judge(t, 10), h.node("/a", 4)
	a.Kids = []string{"c", "b"}
	say(t, j, j.Read("/a", a, 0), false, "the order of Kids")
	a.Kids = a.Kids[:1]
	say(t, j, j.Read("/a", a, 0), false, "one of two Kids")
	a = h.node("/a", 10)
	a.Kids = []string{}
	a.Kids = append(a.Kids, "c")
	say(t, j, j.Read("/a", a, 0), true)
	a = h.node("/a/c", 10)
	a.Kids = []string{}
	say(t, j, j.Read("/a/c", a, 0), true)
}

// P20.2: the state of an At is the one of that time, however many entries are known, and in any order.
func TestReadOfEachState(t *testing.T) {
	h := newHistory(t, open(1))
	for i := range 100 {
		h.add(t, set(1, "/", fmt.Sprint(i)))
	}
	j := h.judge(t, 101)
	for i := range 102 {
		for _, at := range []int{i, 101 - i, i * 37 % 102} {
			say(t, j, j.Read("/", h.node("/", at), 0), true, at)
		}
	}
	is(t, j, 101, 0, false)
	for i := range 101 {
		a := h.node("/", i)
		a.At++
		say(t, j, j.Read("/", a, 0), i == 0, i)
	}
}

// heard returns a history with two sessions that have events, the first one of two lives.
func heard(t *testing.T) *history {
	t.Helper()
	h := newHistory(t, open(1), open(2), look(1, "/", false, false), look(2, "/", true, false), set(2, "/", "a"), create(2, "/a"))
	h.add(t, set(2, "/", "b"))                                                                      // 7
	h.add(t, noted(synced(1), 1))                                                                   // 8
	h.add(t, create(1, "/b"))                                                                       // 9
	h.add(t, noted(set(2, "/", "c"), 2))                                                            // 10
	h.add(t, noted(synced(1), 3))                                                                   // 11
	h.add(t, closed(1))                                                                             // 12
	h.add(t, set(2, "/", "d"))                                                                      // 13
	h.add(t, open(1))                                                                               // 14
	h.add(t, look(1, "/", false, true))                                                             // 15
	h.add(t, set(2, "/", "e"))                                                                      // 16
	h.add(t, set(2, "/", "f"))                                                                      // 17
	h.add(t, create(1, "/c"))                                                                       // 18
	h.add(t, look(1, "/", true, false))                                                             // 19
	h.add(t, op.Made(2, 0, op.Op{Does: op.Create, Path: "/d"}, op.Op{Does: op.Create, Path: "/e"})) // 20
	return h
}

// all returns all events of a session up to an index, by their own When.
func (h *history) all(session, known int) (list []watch.Event) {
	for at := range known + 1 {
		for _, e := range h.states[at].Events(session) {
			if e.When == at {
				list = append(list, e)
			}
		}
	}
	return list
}

// P20.3: each beginning of the events, with each seen and each Known.
func TestHeard(t *testing.T) {
	h := heard(t)
	if n := len(h.all(1, 20)); n != 6 {
		t.Fatal(h.all(1, 20))
	}
	if n := len(h.all(2, 20)); n != 5 {
		t.Fatal(h.all(2, 20))
	}
	for known := range 21 {
		for session := range 4 {
			all := h.all(session, known)
			for seen := -1; seen <= 22; seen++ {
				for n := range len(all) + 1 {
					j := h.judge(t, known)
					want := true
					if seen >= 0 && seen <= known && h.states[seen].Has(session) {
						want = n == len(all) || all[n].When > seen
					}
					say(t, j, j.Heard(session, all[:n:n], seen), want, session, known, seen, n)
					is(t, j, known, 0, !want)
				}
				// One that is not yet known, or none.
				more := append(slices.Clone(all), watch.Event{Session: session, No: len(all) + 1, Path: "/", What: watch.Set, When: known + 1})
				j := h.judge(t, known)
				say(t, j, j.Heard(session, more, seen), seen > known, session, known, seen)
			}
		}
	}
}

// P20.3: lists that are none of the session's events, whether or not the session exists.
func TestHeardWrong(t *testing.T) {
	h := heard(t)
	for _, session := range []int{1, 2} {
		all := h.all(session, 20)
		for _, seen := range []int{0, 1, 8, 13, 20} {
			for i := range all {
				for n, list := range [][]watch.Event{
					append(slices.Clone(all[:i+1]), all[i:]...),               // one twice
					append(slices.Clone(all[:i]), all[i+1:]...),               // one not
					append(slices.Clone(all), all[i]),                         // one again
					append([]watch.Event{all[i]}, all...),                     // one ahead
					append(slices.Clone(all[i:]), all[:i]...),                 // out of order
					append(slices.Clone(all[:i]), h.all(3-session, 20)[0]),    // one of another session
					append(slices.Clone(all[:i]), watch.Event{}),              // none
					append(slices.Clone(all[:i]), slices.Clone(all[i+1:])...), // one not
				} {
					begins := len(list) <= len(all) && slices.Equal(list, all[:len(list)])
					j := h.judge(t, 20)
					got := j.Heard(session, list, seen)
					if !begins && got {
						t.Error(session, seen, i, n, list)
					}
				}
				for n, change := range []func(e *watch.Event){
					func(e *watch.Event) { e.Session = 3 - e.Session },
					func(e *watch.Event) { e.No++ },
					func(e *watch.Event) { e.Path = "/q" },
					func(e *watch.Event) { e.What++ },
					func(e *watch.Event) { e.When++ },
				} {
					list := slices.Clone(all)
					change(&list[i])
					j := h.judge(t, 20)
					say(t, j, j.Heard(session, list, seen), false, session, seen, i, n)
					j = h.judge(t, 20)
					say(t, j, j.Heard(session, list, 21), true, session, seen, i, n)
				}
			}
		}
	}
}

// P20.3: sessions that there never were.
func TestHeardOfNobody(t *testing.T) {
	h := heard(t)
	for _, session := range []int{math.MinInt, -1, 0, 3, 1 << 50, math.MaxInt} {
		for _, seen := range []int{math.MinInt, -1, 0, 1, 20} {
			j := h.judge(t, 20)
			say(t, j, j.Heard(session, nil, seen), true, session, seen)
			say(t, j, j.Heard(session, []watch.Event{}, seen), true, session, seen)
			is(t, j, 20, 0, false)
			say(t, j, j.Heard(session, h.all(1, 20)[:1], seen), false, session, seen)
			say(t, j, j.Heard(session, make([]watch.Event, 1), seen), false, session, seen)
		}
		for _, seen := range []int{21, math.MaxInt} {
			j := h.judge(t, 20)
			say(t, j, j.Heard(session, make([]watch.Event, 5), seen), true, session, seen)
		}
	}
}

// P20.3: events that no state had: those of the command with which the session ends.
func TestHeardOfTheLast(t *testing.T) {
	h := newHistory(t, open(1), open(2), look(1, "/", false, false))
	for i := range 7 {
		h.add(t, set(2, "/", fmt.Sprint(i)))
	}
	if h.states[9].Has(1) || !h.states[8].Has(1) {
		t.Fatal("the session has not ended")
	}
	all := h.states[8].Events(1)
	j := h.judge(t, 10)
	for n := range 6 {
		for _, seen := range []int{9, 10} {
			say(t, j, j.Heard(1, all[:n], seen), true, n)
		}
	}
	say(t, j, j.Heard(1, all, 8), true)
	last := watch.Event{Session: 1, No: 6, Path: "/", What: watch.Set, When: 9}
	say(t, j, j.Heard(1, append(slices.Clone(all), last), 10), false)
	j = h.judge(t, 10)
	say(t, j, j.Heard(1, all[:4], 8), false)
}

// P20.3: an event that is there for a long time is one, and so is one that is noted at once.
func TestHeardOnce(t *testing.T) {
	h := newHistory(t, open(1), open(2), look(1, "/", false, false))
	var all []watch.Event
	for i := range 24 {
		h.add(t, set(2, "/", "x"))
		all = append(all, watch.Event{Session: 1, No: i + 1, Path: "/", What: watch.Set, When: len(h.texts)})
		h.add(t, synced(2))
		if i%3 == 2 {
			h.add(t, noted(synced(1), i))
		}
	}
	last := len(h.texts)
	j := h.judge(t, last)
	for n := range 25 {
		for seen := range last + 1 {
			want := seen < 1 || n == 24 || all[n].When > seen
			j := j
			if !want {
				j = h.judge(t, last)
			}
			if seen%5 == 0 || want {
				say(t, j, j.Heard(1, all[:n], seen), want, n, seen)
			}
		}
	}
	is(t, j, last, 0, false)
}

// Rule 4: what is handed in is neither changed nor kept.
func TestArguments(t *testing.T) {
	h := heard(t)
	list := h.all(1, 20)
	more := slices.Clone(list)
	j := h.judge(t, 20)
	say(t, j, j.Heard(1, list[:5:5], 18), true)
	if !slices.Equal(list, more) {
		t.Error("changed")
	}
	clear(list)
	say(t, j, j.Heard(1, more, 20), true)
	a := h.node("/", 20)
	kids := slices.Clone(a.Kids)
	say(t, j, j.Read("/", a, 0), true)
	if !slices.Equal(a.Kids, kids) {
		t.Error("changed")
	}
	clear(a.Kids)
	a.Kids = kids
	say(t, j, j.Read("/", a, 0), true)
}
