package client

import (
	"math"
	"reflect"
	"strings"
	"testing"

	"orchard/api"
	"orchard/op"
	"orchard/pith"
	"orchard/plog"
	"orchard/replica"
	"orchard/watch"
)

// is fails unless a client has this Seen and Noted, this Cmd, is Busy or not, and has so many events.
func is(t *testing.T, c *Client, seen, noted int, cmd op.Cmd, busy bool, events int) {
	t.Helper()
	if c.Seen() != seen || c.Noted() != noted || !c.Cmd().Same(cmd) || c.Busy() != busy || len(c.Events()) != events {
		t.Fatalf("Seen %d, Noted %d, Cmd %v, Busy %v, Events %v; not %d, %d, %v, %v, %d",
			c.Seen(), c.Noted(), c.Cmd(), c.Busy(), c.Events(), seen, noted, cmd, busy, events)
	}
}

// refuses fails unless Call returns an error and changes nothing.
func refuses(t *testing.T, c *Client, cmd op.Cmd, e api.Errno) {
	t.Helper()
	was := *c
	if got := c.Call(cmd); got != e {
		t.Fatalf("Call of %v: %d, not %d", cmd, got, e)
	}
	if !reflect.DeepEqual(*c, was) {
		t.Fatalf("Call of %v changed %+v to %+v", cmd, was, *c)
	}
}

// ends ends the wait of a client without an answer.
func ends(c *Client) { c.busy = false }

// P18.1: a new client.
func TestNew(t *testing.T) {
	w, _ := settled(t, 3, 1)
	last := w.reps[1].Last()
	for _, id := range []int{1, 2, 16, 17, 0, -1, pith.Most, pith.Most + 1, math.MinInt, math.MaxInt} {
		c := New(id)
		if c.ID != id {
			t.Error(c.ID)
		}
		is(t, c, 0, 0, op.Cmd{}, false, 0)
		for _, r := range append(w.reps, nil) {
			if a, ok := c.Try(r); ok || !reflect.DeepEqual(a, replica.Reply{E: api.ErrArg}) {
				t.Error(a, ok)
			}
		}
		is(t, c, 0, 0, op.Cmd{}, false, 0)
	}
	if w.reps[1].Last() != last || New(1) == New(1) {
		t.Error("not new")
	}
}

// P18.1: the Kinds that can be called.
func TestCallKinds(t *testing.T) {
	for _, kind := range []op.Kind{math.MinInt, -2, -1, op.Empty, op.Sync + 1, 7, 256, math.MaxInt} {
		c := New(3)
		refuses(t, c, op.Cmd{Kind: kind}, api.ErrArg)
		refuses(t, c, op.Cmd{Kind: kind, Session: 3, Req: 1}, api.ErrArg)
		if e := c.Call(op.Cmd{Kind: op.Sync}); e != api.OK {
			t.Error(e)
		}
		is(t, c, 0, 0, op.Cmd{Kind: op.Sync, Session: 3, Req: 1}, true, 0)
	}
	for kind := op.Open; kind <= op.Sync; kind++ {
		c := New(3)
		want := op.Cmd{Kind: kind, Session: 3, Req: 1, Path: "/a", Kids: true, Once: true, Ops: []op.Op{
			{Does: op.Create, Path: "/a", Data: "x", Version: -1, Serial: true, Own: true}, {Does: op.Check, Path: "b", Version: 7},
		}}
		if kind == op.Open {
			want.Req = 0
		}
		cmd := want
		cmd.Session, cmd.Req, cmd.Noted = 0, 0, 0
		if e := c.Call(cmd); e != api.OK {
			t.Error(kind, e)
		}
		is(t, c, 0, 0, want, true, 0)
	}
}

// P18.1: no Call while it is Busy.
func TestCallBusy(t *testing.T) {
	w, _ := settled(t, 3, 1)
	for first := op.Open; first <= op.Sync; first++ {
		c := New(5)
		w.calls(c, op.Cmd{Kind: first, Path: "/"})
		for range 2 {
			for kind := op.Empty - 1; kind <= op.Sync+1; kind++ {
				refuses(t, c, op.Cmd{Kind: kind}, api.ErrArg)
				refuses(t, c, op.Cmd{Kind: kind, Path: "/"}, api.ErrArg)
			}
			refuses(t, c, op.Cmd{Kind: op.Update, Ops: make([]op.Op, 5)}, api.ErrArg)
			refuses(t, c, tooLong(), api.ErrArg)
			// What is no answer does not change that.
			c.Try(nil)
		}
		w.waits(c)
		req := c.Cmd().Req + 1
		w.calls(c, op.Cmd{Kind: op.Sync})
		if c.Cmd().Req != req {
			t.Error(c.Cmd())
		}
	}
}

// P18.1: a second Open.
func TestSecondOpen(t *testing.T) {
	w := newWorld(t, 3)
	c, open := New(2), op.Cmd{Kind: op.Open}
	// Other answers, and OK among them, are not those of an Open.
	if a := w.asks(c, op.Cmd{Kind: op.Close}); a.E != api.OK {
		t.Fatal(a)
	}
	if a := w.asks(c, set("x")); a.E != api.ErrSession {
		t.Fatal(a)
	}
	w.calls(c, open)
	refuses(t, c, open, api.ErrArg)
	for range 2 {
		c.Try(nil)
		c.Try(w.reps[w.other()])
		refuses(t, c, open, api.ErrArg)
	}
	if a, _ := w.waits(c); a.E != api.OK {
		t.Fatal(a)
	}
	for range 3 {
		refuses(t, c, open, api.ErrArg)
		refuses(t, c, op.Cmd{Kind: op.Open, Session: 9, Req: 1, Path: "/"}, api.ErrArg)
		bad := tooLong()
		bad.Kind = op.Open
		refuses(t, c, bad, api.ErrArg)
		if a := w.asks(c, set("y")); a.E != api.OK {
			t.Fatal(a)
		}
	}
	// Nor when the session has ended.
	if a := w.asks(c, op.Cmd{Kind: op.Close}); a.E != api.OK {
		t.Fatal(a)
	}
	refuses(t, c, open, api.ErrArg)
	if a := w.asks(c, set("z")); a.E != api.ErrSession {
		t.Fatal(a)
	}
	refuses(t, c, open, api.ErrArg)
	// Another client may open it again.
	if a := w.asks(New(2), open); a.E != api.OK {
		t.Fatal(a)
	}
	refuses(t, c, open, api.ErrArg)
}

// P18.1: an Open that was answered, but not with OK, can be called again.
func TestOpenWithError(t *testing.T) {
	w, _ := settled(t, 3, 1)
	c := New(2)
	w.calls(c, op.Cmd{Kind: op.Open})
	c.cmd.Session = -1 // so that the leader refuses it
	a, ok := c.Try(w.reps[w.leader()])
	if !ok || a.E != api.ErrArg || c.Busy() {
		t.Fatal(a, ok)
	}
	w.asks(c, op.Cmd{Kind: op.Open})
	refuses(t, c, op.Cmd{Kind: op.Open}, api.ErrArg)
}

// tooLong returns a command of valid operations whose Bytes are one byte too many, whatever its numbers are.
func tooLong() op.Cmd {
	long := op.Op{Does: op.Create, Path: "/" + strings.Repeat("p", 59), Data: strings.Repeat("d", 60), Version: -1}
	short := op.Op{Does: op.Set, Path: "/", Data: strings.Repeat("d", 22), Version: -1}
	return op.Cmd{Kind: op.Update, Ops: []op.Op{long, long, long, short}}
}

// P18.1: the Req of each command, over Opens, commands that layer 12 refuses, and all others.
func TestReq(t *testing.T) {
	w := newWorld(t, 3)
	c := New(4)
	refuses(t, c, tooLong(), api.ErrLong)
	for i, x := range []struct {
		kind op.Kind
		req  int
	}{
		{op.Update, 1}, {op.Open, 0}, {op.Update, 2}, {op.Watch, 3}, {op.Sync, 4}, {op.Update, 5}, {op.Sync, 6},
		{op.Close, 7}, {op.Update, 8}, {op.Close, 9}, {op.Watch, 10}, {op.Sync, 11},
	} {
		w.calls(c, op.Cmd{Kind: x.kind, Path: "/"})
		if cmd := c.Cmd(); cmd.Req != x.req || cmd.Kind != x.kind || cmd.Session != 4 || cmd.Noted != 0 {
			t.Error(i, cmd)
		}
		w.waits(c)
		if cmd := c.Cmd(); cmd.Req != x.req || cmd.Kind != x.kind {
			t.Error(i, cmd)
		}
		refuses(t, c, tooLong(), api.ErrLong)
		refuses(t, c, op.Cmd{Kind: op.Update, Ops: make([]op.Op, 1)}, api.ErrArg)
		refuses(t, c, op.Cmd{Kind: op.Empty}, api.ErrArg)
	}
}

// P18.1: an Open does not count, however often it is called.
func TestReqOfOpens(t *testing.T) {
	c := New(4)
	for i := range 3 {
		for range i {
			if e := c.Call(op.Cmd{Kind: op.Open}); e != api.OK || c.Cmd().Req != 0 {
				t.Error(e, c.Cmd())
			}
			ends(c)
		}
		if e := c.Call(op.Cmd{Kind: op.Sync}); e != api.OK || c.Cmd().Req != i+1 {
			t.Error(e, c.Cmd())
		}
		ends(c)
	}
}

// P18.1: the greatest Req and Noted, beyond which layer 12 refuses the command.
func TestGreatestNumbers(t *testing.T) {
	c := New(pith.Most)
	c.req = pith.Most - 1
	if e := c.Call(op.Cmd{Kind: op.Sync}); e != api.OK || c.Cmd().Req != pith.Most || c.Cmd().Session != pith.Most {
		t.Error(e, c.Cmd())
	}
	ends(c)
	refuses(t, c, op.Cmd{Kind: op.Sync}, api.ErrArg)
	if e := c.Call(op.Cmd{Kind: op.Open}); e != api.OK || c.Cmd().Req != 0 {
		t.Error(e, c.Cmd())
	}
	c = New(1)
	c.noted = pith.Most
	if e := c.Call(op.Cmd{Kind: op.Sync}); e != api.OK || c.Cmd().Noted != pith.Most {
		t.Error(e, c.Cmd())
	}
	ends(c)
	c.noted++
	refuses(t, c, op.Cmd{Kind: op.Sync}, api.ErrArg)
	if e := c.Call(op.Cmd{Kind: op.Open}); e != api.OK || c.Cmd().Noted != 0 {
		t.Error(e, c.Cmd())
	}
}

// P18.1: Session, Req and Noted are the client's, whatever the caller put there.
func TestNumbersOfTheCaller(t *testing.T) {
	for _, x := range []int{0, 1, 2, 6, 9, -1, pith.Most, pith.Most + 1, math.MinInt, math.MaxInt} {
		for kind := op.Open; kind <= op.Sync; kind++ {
			c := New(6)
			c.noted, c.req = 2, 8
			want := op.Cmd{Kind: kind, Session: 6, Req: 9, Noted: 2}
			if kind == op.Open {
				want.Req, want.Noted = 0, 0
			}
			if e := c.Call(op.Cmd{Kind: kind, Session: x, Req: x, Noted: x}); e != api.OK {
				t.Error(kind, x, e)
			}
			is(t, c, 0, 2, want, true, 0)
		}
	}
}

// P18.1: layer 12's errors; the last Req is then unchanged.
func TestCallRefused(t *testing.T) {
	good := op.Op{Does: op.Set, Path: "/", Version: -1}
	with := func(f func(o *op.Op)) op.Cmd {
		o := good
		f(&o)
		return op.Cmd{Kind: op.Update, Ops: []op.Op{good, o}}
	}
	for _, x := range []struct {
		cmd op.Cmd
		e   api.Errno
	}{
		{with(func(o *op.Op) { o.Does = 0 }), api.ErrArg},
		{with(func(o *op.Op) { o.Does = op.Check + 1 }), api.ErrArg},
		{with(func(o *op.Op) { o.Path = strings.Repeat("x", api.MaxPath+1) }), api.ErrArg},
		{with(func(o *op.Op) { o.Data = strings.Repeat("x", api.MaxData+2) }), api.ErrArg},
		{with(func(o *op.Op) { o.Version = -2 }), api.ErrArg},
		{with(func(o *op.Op) { o.Version = pith.Most }), api.ErrArg},
		{op.Cmd{Kind: op.Update, Ops: []op.Op{good, good, good, good, good}}, api.ErrArg},
		{op.Cmd{Kind: op.Watch, Path: strings.Repeat("x", api.MaxPath+1)}, api.ErrArg},
		{tooLong(), api.ErrLong},
		{with(func(o *op.Op) {}), api.OK},
		{with(func(o *op.Op) { o.Path, o.Data = "no path", strings.Repeat("x", api.MaxData+1) }), api.OK},
		{op.Cmd{Kind: op.Watch, Path: "no path"}, api.OK},
	} {
		for kind := op.Open; kind <= op.Sync; kind++ {
			c := New(7)
			if e := c.Call(op.Cmd{Kind: op.Sync}); e != api.OK {
				t.Fatal(e)
			}
			ends(c)
			cmd := x.cmd
			cmd.Kind = kind
			for range 2 {
				if x.e != api.OK {
					refuses(t, c, cmd, x.e)
				}
			}
			if x.e != api.OK {
				cmd = op.Cmd{Kind: kind}
			}
			if e := c.Call(cmd); e != api.OK || !c.Busy() || kind != op.Open && c.Cmd().Req != 2 {
				t.Error(kind, cmd, e, c.Cmd())
			}
		}
	}
}

// P18.1: a command as long as it may be.
func TestLongestCommand(t *testing.T) {
	cmd := tooLong()
	cmd.Ops[3].Data = cmd.Ops[3].Data[1:]
	w, c := settled(t, 3, 1)
	w.calls(c, cmd)
	if text, e := c.Cmd().Bytes(); e != api.OK || len(text) != plog.MaxData {
		t.Error(e, len(text))
	}
	if a, _ := w.waits(c); a.E != api.OK || a.Result.E != api.ErrPath {
		t.Error(a)
	}
}

// P18.1: the client of a session whose number layer 12 refuses calls nothing.
func TestCallOfBadSession(t *testing.T) {
	for _, id := range []int{-1, pith.Most + 1, math.MinInt, math.MaxInt} {
		for kind := op.Empty; kind <= op.Sync; kind++ {
			refuses(t, New(id), op.Cmd{Kind: kind}, api.ErrArg)
			refuses(t, New(id), op.Cmd{Kind: kind, Session: 1, Req: 1}, api.ErrArg)
		}
	}
	for _, id := range []int{0, pith.Most} {
		if e := New(id).Call(op.Cmd{Kind: op.Open}); e != api.OK {
			t.Error(id, e)
		}
	}
}

// Rule 4: the client has its command in memory of its own, and so has who asks for it.
func TestCmdIsOwn(t *testing.T) {
	cmd := set("x")
	cmd.Ops = append(make([]op.Op, 0, 4), cmd.Ops...)
	c := New(1)
	if e := c.Call(cmd); e != api.OK {
		t.Fatal(e)
	}
	want := op.Cmd{Kind: op.Update, Session: 1, Req: 1, Ops: set("x").Ops}
	if !cmd.Same(set("x")) || cmd.Ops[:4][1] != (op.Op{}) {
		t.Error("Call changed", cmd)
	}
	cmd.Ops[0].Data = "y"
	is(t, c, 0, 0, want, true, 0)
	got := c.Cmd()
	got.Ops[0].Data = "z"
	got.Ops = append(got.Ops, op.Op{})
	is(t, c, 0, 0, want, true, 0)
	// Nor does an empty list share what there is room for.
	c, cmd.Ops = New(1), cmd.Ops[:0]
	if e := c.Call(cmd); e != api.OK {
		t.Fatal(e)
	}
	got = c.Cmd()
	got.Ops = append(got.Ops, op.Op{Data: "z"})
	if cmd.Ops[:1][0].Data != "y" {
		t.Error("shared")
	}
}

// Rule 4: so it has its events.
func TestEventsAreOwn(t *testing.T) {
	c := New(1)
	list := []watch.Event{{Session: 1, No: 1, Path: "/a", What: watch.Set, When: 3}, {Session: 1, No: 2, Path: "/b", What: watch.Gone, When: 4}}
	c.take(replica.Reply{At: 4, Events: list})
	list[0].No = 7
	got := c.Events()
	got[1].Path = "x"
	got = append(got[:1], watch.Event{})
	c.take(replica.Reply{At: 5, Events: []watch.Event{{Session: 1, No: 3, Path: "/c", What: watch.Made, When: 5}}})
	if got[1] != (watch.Event{}) {
		t.Error(got)
	}
	want := []watch.Event{
		{Session: 1, No: 1, Path: "/a", What: watch.Set, When: 3}, {Session: 1, No: 2, Path: "/b", What: watch.Gone, When: 4},
		{Session: 1, No: 3, Path: "/c", What: watch.Made, When: 5},
	}
	if !reflect.DeepEqual(c.Events(), want) {
		t.Error(c.Events())
	}
}

// Two clients, also of one session, have nothing to do with each other.
func TestTwoClients(t *testing.T) {
	a, b := New(1), New(1)
	if a.Call(set("x")) != api.OK {
		t.Fatal(a.Cmd())
	}
	a.take(replica.Reply{At: 9, Events: []watch.Event{{Session: 1, No: 1}}})
	is(t, b, 0, 0, op.Cmd{}, false, 0)
	is(t, a, 9, 1, op.Cmd{Kind: op.Update, Session: 1, Req: 1, Ops: set("x").Ops}, true, 1)
}
