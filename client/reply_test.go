package client

import (
	"fmt"
	"reflect"
	"slices"
	"testing"

	"orchard/api"
	"orchard/head"
	"orchard/op"
	"orchard/replica"
	"orchard/watch"
)

// watched returns replicas with a client 1 that watches the root, and with an event for it that it has not heard of.
func watched(t *testing.T) (*world, *Client) {
	t.Helper()
	w, c := settled(t, 3, 1)
	w.asks(c, op.Cmd{Kind: op.Watch, Path: "/"})
	w.changes()
	return w, c
}

// changes lets another client set the root, and all replicas know it.
func (w *world) changes() {
	w.t.Helper()
	b := New(2)
	w.asks(b, op.Cmd{Kind: op.Open})
	w.asks(b, set("changed"))
	w.asks(b, op.Cmd{Kind: op.Close})
	w.rounds(6)
}

// trying lets a client try a replica, and checks that this is the replica's Do of its Cmd and Seen.
func (w *world) trying(c *Client, k int) (replica.Reply, bool) {
	w.t.Helper()
	want := w.reps[k].Do(c.Cmd(), c.Seen())
	a, ok := c.Try(w.reps[k])
	if !same(a, want) || ok != (want.E != api.ErrUnavail && want.E != api.ErrLeader) || c.Busy() == ok {
		w.fail("Try of %v, %d: %v, %v, not %v", c.Cmd(), k, a, ok, want)
	}
	return a, ok
}

// reading lets a client read from a replica, and checks that this is the replica's Get for its session and Seen.
func (w *world) reading(c *Client, k int, s string) replica.Reply {
	w.t.Helper()
	want := w.reps[k].Get(c.ID, s, c.Seen())
	cmd, busy := c.Cmd(), c.Busy()
	a := c.Read(w.reps[k], s)
	if !same(a, want) || !c.Cmd().Same(cmd) || c.Busy() != busy {
		w.fail("Read of %s, %d: %v, not %v; Cmd %v, Busy %v", s, k, a, want, c.Cmd(), c.Busy())
	}
	return a
}

// P18.2: of each Kind, the answer is awaited through ErrLeader and ErrUnavail, and ends the wait.
func TestTry(t *testing.T) {
	for kind := op.Open; kind <= op.Sync; kind++ {
		w, c := settled(t, 3, 1)
		if kind == op.Open {
			c = New(2)
		}
		w.rounds(6)
		lead, other := w.leader(), w.other()
		w.calls(c, op.Cmd{Kind: kind, Path: "/", Ops: []op.Op{{Does: op.Create, Path: "/a", Version: -1}}})
		cmd := c.Cmd()
		for range 3 {
			if a, ok := w.trying(c, other); ok || a.E != api.ErrLeader {
				t.Fatal(kind, a)
			}
			if a, ok := w.trying(c, lead); ok || a.E != api.ErrUnavail {
				t.Fatal(kind, a)
			}
			if !c.Busy() || !c.Cmd().Same(cmd) {
				t.Fatal(kind, c.Cmd())
			}
		}
		w.collect(lead)
		w.rounds(6)
		who, at := []int{lead, other}[kind%2], w.reps[1].State().At()
		if a, ok := w.trying(c, who); !ok || a.E != api.OK || a.At != at || kind == op.Update && a.Result.When != at {
			t.Fatal(kind, a)
		}
		is(t, c, at, 0, cmd, false, 0)
		for range 2 {
			for k := 1; k <= 3; k++ {
				if a, ok := c.Try(w.reps[k]); ok || !same(a, replica.Reply{E: api.ErrArg}) {
					t.Fatal(kind, a)
				}
			}
		}
		is(t, c, at, 0, cmd, false, 0)
	}
}

// P18.2: an answer may be an error, or a Result with one.
func TestErrorsThatAnswer(t *testing.T) {
	w, a := settled(t, 3, 1)
	for range 3 {
		w.asks(a, set("x"))
	}
	b := New(1)
	for i, x := range []struct {
		c      *Client
		cmd    op.Cmd
		e      api.Errno
		result api.Errno
	}{
		{New(2), set("y"), api.ErrSession, api.OK},
		{New(0), op.Cmd{Kind: op.Sync}, api.ErrSession, api.OK},
		{New(2), op.Cmd{Kind: op.Close}, api.OK, api.OK},
		{b, set("y"), api.ErrOld, api.OK},
		{b, op.Cmd{Kind: op.Sync}, api.ErrOld, api.OK},
		{b, op.Cmd{Kind: op.Close}, api.OK, api.OK}, // the result that is stored for that Req
		{a, op.Cmd{Kind: op.Update, Ops: []op.Op{{Does: op.Delete, Path: "/no", Version: -1}}}, api.OK, api.ErrNode},
		{a, op.Cmd{Kind: op.Update, Ops: []op.Op{{Does: op.Check, Path: "/", Version: 99}}}, api.OK, api.ErrVersion},
		{a, op.Cmd{Kind: op.Watch, Path: "no path"}, api.OK, api.ErrPath},
	} {
		got := w.asks(x.c, x.cmd)
		if got.E != x.e || got.Result.E != x.result || x.c.Busy() || x.c.Seen() != got.At {
			t.Error(i, got)
		}
	}
}

// P18.2: Read is the replica's Get, at any time; its errors are the node's, and the rest is told all the same.
func TestRead(t *testing.T) {
	w, first := watched(t)
	at := w.reps[1].State().At()
	for _, x := range []struct {
		s string
		e api.Errno
	}{{"/", api.OK}, {"/no", api.ErrNode}, {"", api.ErrPath}, {"/A", api.ErrPath}} {
		for k := 1; k <= 3; k++ {
			// New, Busy, and not Busy any more.
			c := New(1)
			if a := w.reading(c, k, x.s); a.E != x.e || a.At != at || len(a.Events) != 1 {
				t.Error(k, x.s, a)
			}
			is(t, c, at, 1, op.Cmd{}, false, 1)
			c = New(1)
			w.calls(c, op.Cmd{Kind: op.Open})
			for range 2 {
				w.reading(c, k, x.s)
				is(t, c, at, 1, op.Cmd{Kind: op.Open, Session: 1}, true, 1)
			}
			w.trying(c, k)
			w.reading(c, k, x.s)
			is(t, c, at, 1, op.Cmd{Kind: op.Open, Session: 1}, false, 1)
			// Of another session.
			c = New(3)
			if a := w.reading(c, k, x.s); a.E != x.e || a.Events != nil {
				t.Error(k, x.s, a)
			}
			is(t, c, at, 0, op.Cmd{}, false, 0)
		}
	}
	if a := w.reading(first, 2, "/"); a.Node.Data != "changed" {
		t.Error(a)
	}
}

// P18.2: of a Reply that is ErrUnavail nothing is taken, though it tells At and events; of ErrLeader it is.
func TestUnavailTakesNothing(t *testing.T) {
	w, c := watched(t)
	seen, at, cmd := c.Seen(), w.reps[1].State().At(), set("x")
	cmd.Session, cmd.Req = 1, 2
	w.calls(c, set("x"))
	for range 2 {
		if a, ok := w.trying(c, w.leader()); ok || a.E != api.ErrUnavail || a.At <= seen || len(a.Events) != 1 {
			t.Fatal(a)
		}
		is(t, c, seen, 0, cmd, true, 0)
	}
	for range 2 {
		if a, ok := w.trying(c, w.other()); ok || a.E != api.ErrLeader || a.At != at || len(a.Events) != 1 {
			t.Fatal(a)
		}
		is(t, c, at, 1, cmd, true, 1)
	}
}

// P18.2: replicas that cannot answer are ErrUnavail; the client goes on waiting.
func TestNoReplica(t *testing.T) {
	w, c := watched(t)
	w.calls(c, set("x"))
	was := *c
	lost := w.devs[1].Crash()
	lost.Lose(0)
	lost.Lose(1)
	gone, e := replica.Open(lost, 1, 3)
	if _, bad := head.Open(lost); e != api.OK || bad != api.ErrBad || gone.State() != nil {
		t.Fatal(e, bad)
	}
	w.devs[2].Fall(0)
	w.devs[2].Flush()
	w.reps[2].Scrub()
	for range 100 {
		w.reps[2].Tick()
	}
	if w.reps[2].Err() != api.ErrDown {
		t.Fatal(w.reps[2].Err())
	}
	for _, r := range []*replica.Replica{nil, gone, w.reps[2]} {
		if a, ok := c.Try(r); ok || !same(a, replica.Reply{E: api.ErrUnavail}) {
			t.Error(a, ok)
		}
		if a := c.Read(r, "/"); !same(a, replica.Reply{E: api.ErrUnavail}) {
			t.Error(a)
		}
		if !reflect.DeepEqual(*c, was) {
			t.Error("changed")
		}
	}
}

// P18.2: Do and Get are called with Seen: a replica whose At is below it does not answer, others do.
func TestSeen(t *testing.T) {
	w, c := watched(t)
	w.reading(c, 1, "/")
	old := w.other()
	was := w.reps[old].State().At()
	w.off[old] = true
	for i := range 3 {
		w.asks(c, set(fmt.Sprint(i)))
	}
	w.off[old] = false
	seen := w.reps[w.reps[old].Lead()].State().At()
	if c.Seen() != seen || w.reps[old].State().At() != was || seen <= was {
		t.Fatal(c.Seen(), was)
	}
	// At below Seen, for Read and for Try.
	noted, events := c.Noted(), len(c.Events())
	cmd := c.Cmd()
	if a := w.reading(c, old, "/"); !same(a, replica.Reply{E: api.ErrUnavail}) {
		t.Error(a)
	}
	is(t, c, seen, noted, cmd, false, events)
	w.calls(c, op.Cmd{Kind: op.Sync})
	cmd = c.Cmd()
	if a, ok := w.trying(c, old); ok || !same(a, replica.Reply{E: api.ErrUnavail}) {
		t.Error(a)
	}
	is(t, c, seen, noted, cmd, true, events)
	// Who has seen less is answered.
	b := New(1)
	if a := w.reading(b, old, "/"); a.E != api.OK || b.Seen() != was {
		t.Error(a)
	}
	w.calls(b, op.Cmd{Kind: op.Open})
	if a, ok := w.trying(b, old); !ok || a.E != api.OK || b.Seen() != was {
		t.Error(a)
	}
	// At equal to Seen.
	lead := w.reps[old].Lead()
	if a := w.reading(c, lead, "/"); a.E != api.OK || a.At != seen || a.Node.Data != "2" {
		t.Error(a)
	}
	is(t, c, seen, noted, cmd, true, len(c.Events()))
	// At above it.
	w.trying(c, lead)
	w.collect(lead)
	w.rounds(7)
	if a := w.reading(c, old, "/"); a.E != api.OK || a.At != seen+1 || c.Seen() != seen+1 {
		t.Error(a)
	}
}

// P18.2: the events, in order and each once, of Try and of Read; the next command tells that they were noted.
func TestEvents(t *testing.T) {
	w, c := watched(t)
	var want []watch.Event
	for i := range 12 {
		if i > 0 {
			w.changes()
		}
		no, k := i+1, 1+i%3
		list := w.reps[k].State().Events(1)
		want = append(want, list[len(list)-1])
		if i%2 == 0 {
			w.reading(c, k, "/")
		} else {
			// An Open of this session is answered at once, with the events.
			c.opened = false
			w.calls(c, op.Cmd{Kind: op.Open})
			w.trying(c, k)
		}
		for range 2 {
			w.reading(c, 1+(k+i)%3, "/no")
		}
		if c.Noted() != no || !slices.Equal(c.Events(), want) || want[i].No != no || want[i].What != watch.Set || want[i].Session != 1 {
			t.Fatal(i, c.Noted(), c.Events(), want)
		}
		if i%3 != 2 {
			continue
		}
		// All but the last command notes are repeated by the replicas, until the next one is executed.
		w.calls(c, op.Cmd{Kind: op.Sync})
		if c.Cmd().Noted != no {
			t.Fatal(c.Cmd())
		}
		if list := w.reps[1].State().Events(1); len(list) != 3 {
			t.Fatal(i, list)
		}
		w.waits(c)
		w.rounds(6)
		if list := w.reps[1].State().Events(1); len(list) != 0 || c.Noted() != no || !slices.Equal(c.Events(), want) {
			t.Fatal(i, list, c.Events())
		}
	}
}

// P18.1: Noted is that of the time of the Call; what the client is told later is noted by its next command.
func TestNotedOfCall(t *testing.T) {
	w, c := watched(t)
	w.calls(c, op.Cmd{Kind: op.Sync})
	w.trying(c, w.other())
	if c.Noted() != 1 || c.Cmd().Noted != 0 {
		t.Fatal(c.Noted(), c.Cmd())
	}
	w.waits(c)
	w.rounds(6)
	if list := w.reps[1].State().Events(1); len(list) != 1 {
		t.Error(list)
	}
	w.asks(c, op.Cmd{Kind: op.Sync})
	w.rounds(6)
	if list := w.reps[1].State().Events(1); len(list) != 0 {
		t.Error(list)
	}
	is(t, c, c.Seen(), 1, op.Cmd{Kind: op.Sync, Session: 1, Req: 3, Noted: 1}, false, 1)
}

// P18.1: an Open has a Noted of 0, whatever the client was told before.
func TestNotedOfOpen(t *testing.T) {
	w, _ := watched(t)
	c := New(1)
	w.reading(c, 1, "/")
	if c.Noted() != 1 {
		t.Fatal(c.Noted())
	}
	w.calls(c, op.Cmd{Kind: op.Open})
	is(t, c, c.Seen(), 1, op.Cmd{Kind: op.Open, Session: 1}, true, 1)
	w.waits(c)
	w.calls(c, op.Cmd{Kind: op.Sync})
	is(t, c, c.Seen(), 1, op.Cmd{Kind: op.Sync, Session: 1, Req: 1, Noted: 1}, true, 1)
}

// P18.2: what is taken of a Reply, by the letter, also of those that a replica would not return.
func TestTake(t *testing.T) {
	events := func(list ...int) (out []watch.Event) {
		for i, no := range list {
			out = append(out, watch.Event{Session: 1, No: no, When: i})
		}
		return out
	}
	for i, x := range []struct {
		e    api.Errno
		at   int
		nos  []int
		seen int
		took []int // which of the events
	}{
		{api.OK, 0, nil, 10, nil},
		{api.OK, 9, nil, 10, nil},
		{api.OK, 10, nil, 10, nil},
		{api.OK, 11, nil, 11, nil},
		{api.OK, -1, nil, 10, nil},
		{api.OK, 99, []int{1, 3, 4}, 99, nil},
		{api.OK, 10, []int{5}, 10, []int{0}},
		{api.OK, 9, []int{5}, 10, []int{0}},
		{api.OK, 12, []int{3, 4, 5, 6, 7}, 12, []int{2, 3, 4}},
		{api.OK, 12, []int{7, 9}, 12, []int{0, 1}},
		{api.OK, 12, []int{6, 5, 6, 8, 7, 4, 9}, 12, []int{0, 3, 6}},
		{api.OK, 12, []int{-1, 0}, 12, nil},
		{api.ErrUnavail, 12, []int{5, 6}, 10, nil},
		{api.ErrLeader, 12, []int{5, 6}, 12, []int{0, 1}},
		{api.ErrNode, 12, []int{5, 6}, 12, []int{0, 1}},
		{api.ErrPath, 12, []int{4, 5}, 12, []int{1}},
		{api.ErrSession, 12, nil, 12, nil},
		{api.ErrOld, 12, []int{5}, 12, []int{0}},
		{api.ErrArg, 12, []int{5}, 12, []int{0}},
		{api.ErrForm, 12, []int{5}, 12, []int{0}},
	} {
		c := New(1)
		c.take(replica.Reply{At: 10, Events: events(1, 2, 4)})
		list := events(x.nos...)
		want, noted := events(1, 2, 4), 4
		for _, k := range x.took {
			want, noted = append(want, list[k]), list[k].No
		}
		for range 2 {
			c.take(replica.Reply{E: x.e, At: x.at, Events: list, Result: op.Result{At: 200, When: 200}, Lead: 300})
			if c.Seen() != x.seen || c.Noted() != noted || !slices.Equal(c.Events(), want) {
				t.Error(i, c.Seen(), c.Noted(), c.Events())
			}
		}
		if !slices.Equal(list, events(x.nos...)) {
			t.Error(i, "changed the Reply")
		}
	}
}

// P18.2: Read is for the client's session: the leader hears of that, so it does not end; others do.
func TestReadKeepsSession(t *testing.T) {
	w, a := settled(t, 3, 1)
	b := New(2)
	w.asks(b, op.Cmd{Kind: op.Open})
	for range replica.Patience + 80 {
		if got := w.reading(b, w.leader(), "/no"); got.E != api.ErrNode {
			t.Fatal(got)
		}
		w.round()
	}
	if got := w.asks(a, op.Cmd{Kind: op.Sync}); got.E != api.ErrSession {
		t.Error(got)
	}
	if got := w.asks(b, op.Cmd{Kind: op.Sync}); got.E != api.OK {
		t.Error(got)
	}
}
