package replica

import (
	"fmt"
	"math"
	"slices"
	"strings"
	"testing"

	"orchard/api"
	"orchard/core"
	"orchard/msg"
	"orchard/op"
	"orchard/pith"
	"orchard/tree"
	"orchard/watch"
)

// open and shut return the commands that begin and end a session.
func open(session int) op.Cmd { return op.Cmd{Kind: op.Open, Session: session} }

func shut(session, req int) op.Cmd { return op.Cmd{Kind: op.Close, Session: session, Req: req} }

// only returns what an answer has that tells nothing but what each one does.
func (w *world) only(k, session int) Reply {
	r := w.reps[k]
	return Reply{Events: r.State().Events(session), At: r.State().At(), Lead: r.Lead()}
}

// want compares an answer.
func (w *world) want(k int, what string, got, want Reply) {
	w.t.Helper()
	if !same(got, want) {
		w.fail("%s: %d answers %v, not %v", what, k, got, want)
	}
}

// P16.2: nothing is answered below the least At; what is not below it is.
func TestLeast(t *testing.T) {
	w := settled(t, 3, 5)
	for k := 1; k <= 3; k++ {
		at := w.reps[k].State().At()
		for _, least := range []int{math.MinInt, -1, 0, 1, at - 1, at, at + 1, at + 2, pith.Most, math.MaxInt} {
			for _, c := range []op.Cmd{set(1, 5, "x"), set(1, 4, "x"), set(2, 1, "x"), shut(2, 1), open(1)} {
				if a := w.do(k, c, least); (a.E == api.ErrUnavail) != (least > at) {
					w.fail("%d, least %d: %v", k, least, a)
				}
			}
			if a := w.get(k, 1, "/", least); (a.E == api.ErrUnavail) != (least > at) {
				w.fail("%d, least %d: %v", k, least, a)
			}
		}
		if w.do(k, set(1, 6, "x"), at+1); w.reps[k].Last() != at {
			w.fail("%d has proposed what it must not answer", k)
		}
	}
}

// P16.2: Open of a session that exists, and Close of one that does not, return nothing else, whoever is asked.
func TestOpenClose(t *testing.T) {
	for _, n := range []int{3, 5, 7} {
		w := settled(t, n, 3)
		last := w.reps[1].Last()
		for k := 1; k <= n; k++ {
			for _, req := range []int{0, 1, 3, 9, -1, pith.Most + 1} {
				c := open(1)
				c.Req = req
				w.want(k, "Open", w.do(k, c, 0), w.only(k, 1))
				for _, session := range []int{2, 0, -1, pith.Most, math.MaxInt} {
					w.want(k, "Close", w.do(k, shut(session, req), 0), w.only(k, session))
				}
			}
			if w.reps[k].Last() != last {
				w.fail("proposed")
			}
		}
		w.ask(open(2))
		w.ask(shut(1, 4))
		w.rounds(2)
		for k := 1; k <= n; k++ {
			if s := w.reps[k].State(); s.Has(1) || !s.Has(2) {
				w.fail("%d: %v", k, s.Sessions())
			}
			w.want(k, "Open", w.do(k, open(2), 0), w.only(k, 2))
			w.want(k, "Close", w.do(k, shut(1, 4), 0), w.only(k, 1))
		}
	}
}

// P16.2: what layer 13's Kept returns is answered by each replica, and not executed again; so for Close.
func TestKept(t *testing.T) {
	w := settled(t, 3, 5)
	w.ask(op.Cmd{Kind: op.Watch, Session: 1, Req: 7, Path: "/"})
	w.ask(set(1, 8, "y"))
	w.rounds(2)
	last := w.reps[1].Last()
	r := w.reps[1].State()
	kept, seen, _ := r.Kept(1, 8)
	if !seen || kept.E != api.OK || len(kept.Outs) != 1 || kept.When != last {
		t.Fatal(kept)
	}
	for k := 1; k <= 3; k++ {
		for _, kind := range []op.Kind{op.Empty, op.Close, op.Update, op.Watch, op.Sync, -1, 6} {
			for _, x := range []struct {
				session, req int
				e            api.Errno
			}{
				{1, 8, api.OK}, {1, 7, api.ErrOld}, {1, 1, api.ErrOld},
				{1, 0, api.ErrArg}, {1, -1, api.ErrArg}, {1, pith.Most + 1, api.ErrArg}, {1, math.MinInt, api.ErrArg},
				{2, 8, api.ErrSession}, {0, 8, api.ErrSession}, {-1, 8, api.ErrSession}, {2, 0, api.ErrSession},
			} {
				c := op.Cmd{Kind: kind, Session: x.session, Req: x.req}
				want := w.only(k, x.session)
				want.E = x.e
				if x.e == api.OK {
					want.Result = kept
				}
				if kind == op.Close && x.session != 1 {
					want.E = api.OK
				}
				w.want(k, fmt.Sprint(c), w.reps[k].Do(c, 0), want)
			}
		}
		if w.reps[k].Last() != last {
			w.fail("proposed")
		}
	}
	if len(w.reps[1].State().Events(1)) != 1 {
		t.Error("no event")
	}
}

// P16.2: a Result with an error is an answer, too.
func TestResultWithError(t *testing.T) {
	w := settled(t, 3, 1)
	for req, x := range []struct {
		c op.Cmd
		e api.Errno
	}{
		{op.Made(1, 2, op.Op{Does: op.Set, Path: "/no", Version: -1}), api.ErrNode},
		{op.Made(1, 3, op.Op{Does: op.Check, Path: "/", Version: 9}), api.ErrVersion},
		{op.Made(1, 4, op.Op{Does: op.Delete, Path: "/", Version: -1}), api.ErrArg},
		{op.Made(1, 5, op.Op{Does: op.Create, Path: "no path", Version: -1}), api.ErrPath},
		{op.Cmd{Kind: op.Watch, Session: 1, Req: 6, Path: "no path"}, api.ErrPath},
		{op.Cmd{Kind: op.Sync, Session: 1, Req: 7}, api.OK},
		{op.Made(1, 8), api.OK},
	} {
		a, rounds := w.ask(x.c)
		if a.E != api.OK || a.Result.E != x.e || a.Result.When != 4+req || rounds > 10 {
			t.Error(x.c, a, rounds)
		}
		w.rounds(2)
		for k := 1; k <= 3; k++ {
			if b := w.do(k, x.c, 0); !b.Result.Same(a.Result) || b.E != api.OK {
				t.Error(k, x.c, b)
			}
		}
	}
}

// P16.2: ErrLeader of all but the leader; that proposes a command once, and answers ErrUnavail until it is executed.
func TestProposedOnce(t *testing.T) {
	for _, n := range []int{3, 5, 7} {
		list := []op.Cmd{
			open(2), shut(1, 4), set(1, 4, "x"), create(1, 4), op.Made(1, 4),
			{Kind: op.Watch, Session: 1, Req: 4, Path: "/"}, {Kind: op.Sync, Session: 1, Req: 4}, {Kind: op.Empty, Session: 1, Req: 4},
		}
		for _, c := range list {
			w := settled(t, n, 3)
			lead := w.leader()
			last := w.reps[lead].Last()
			for range 3 {
				for k := 1; k <= n; k++ {
					want := w.only(k, c.Session)
					want.E = api.ErrLeader
					if k == lead {
						want.E = api.ErrUnavail
					}
					w.want(k, fmt.Sprint(c), w.do(k, c, 0), want)
				}
				if w.reps[lead].Last() != last+1 || w.entries(lead, c) != 1 {
					w.fail("%v was proposed otherwise", c)
				}
			}
			for i := range 6 {
				w.round()
				for k := 1; k <= n; k++ {
					a := w.do(k, c, 0)
					if c.Kind != op.Empty && a.E != api.OK && (i > 2 || k == lead) {
						w.fail("%v: %v", c, a)
					}
					if a.Result.When != 0 && a.Result.When != last+1 {
						w.fail("%v: %v", c, a)
					}
				}
			}
			if w.reps[lead].Last() != last+1 {
				w.fail("%v was proposed again", c)
			}
		}
	}
}

// P16.2: commands that differ in anything are different ones; the first of a Req is executed.
func TestDifferentCommands(t *testing.T) {
	w := settled(t, 3, 3)
	lead := w.leader()
	r := w.reps[lead]
	last := r.Last()
	x := set(1, 4, "x")
	noted := x
	noted.Noted = 1
	list := []op.Cmd{
		x, set(1, 4, "y"), set(1, 5, "x"), noted, {Kind: op.Sync, Session: 1, Req: 4}, {Kind: op.Empty, Session: 1, Req: 4},
		shut(1, 4), shut(1, 6), open(2), open(3), {Kind: op.Open, Session: 2, Req: 1}, set(1, 4, ""),
	}
	for range 2 {
		for i, c := range list {
			if w.do(lead, c, 0); w.entries(lead, c) != 1 || r.Last() < last+1+i {
				w.fail("%v: %d times", c, w.entries(lead, c))
			}
		}
	}
	if r.Last() != last+len(list) {
		t.Error(r.Last())
	}
	w.round()
	n, _ := r.State().Get("/")
	if n.Data != "x" || r.State().Has(1) || !r.State().Has(2) || !r.State().Has(3) {
		t.Error(n, r.State().Sessions())
	}
}

// P16.2: layer 12's error of the Bytes is returned by the leader instead; nothing is proposed.
func TestBadCommand(t *testing.T) {
	w := settled(t, 3, 3)
	lead := w.leader()
	last := w.reps[lead].Last()
	long := op.Op{Does: op.Create, Path: "/" + strings.Repeat("p", 59), Data: strings.Repeat("d", 60), Version: -1}
	noted := set(1, 4, "x")
	noted.Noted = -1
	for _, x := range []struct {
		c op.Cmd
		e api.Errno
	}{
		{op.Cmd{Kind: -1, Session: 1, Req: 4}, api.ErrArg},
		{op.Cmd{Kind: 6, Session: 1, Req: 4}, api.ErrArg},
		{noted, api.ErrArg},
		{op.Made(1, 4, op.Op{}), api.ErrArg},
		{op.Made(1, 4, make([]op.Op, 5)...), api.ErrArg},
		{op.Made(1, 4, long, long, long, long), api.ErrLong},
		{op.Cmd{Kind: op.Watch, Session: 1, Req: 4, Path: strings.Repeat("p", 61)}, api.ErrArg},
		{open(-1), api.ErrArg},
		{open(pith.Most + 1), api.ErrArg},
	} {
		for range 2 {
			for k := 1; k <= 3; k++ {
				want := w.only(k, x.c.Session)
				if want.E = x.e; k != lead {
					want.E = api.ErrLeader
				}
				w.want(k, fmt.Sprint(x.c), w.do(k, x.c, 0), want)
			}
		}
		if w.reps[lead].Last() != last {
			t.Error(x.c, "was proposed")
		}
	}
	// As long as it may be.
	short := op.Op{Does: op.Set, Path: "/", Data: strings.Repeat("d", 21), Version: -1}
	c := op.Made(1, 4, long, long, long, short)
	if text, e := c.Bytes(); e != api.OK || len(text) != 488 {
		t.Fatal(e, len(text))
	}
	if a, _ := w.ask(c); a.E != api.OK || a.Result.When != last+1 {
		t.Error(a)
	}
}

// elect lets a replica lead in a later term, so that nothing but votes is heard meanwhile.
func (w *world) elect(k int) {
	w.t.Helper()
	r := w.reps[k]
	if r.Role() == core.Leader {
		from := k%w.n + 1
		r.Hear(msg.Msg{Kind: msg.VoteAsk, From: from, To: k, Term: r.Term() + 1})
	}
	for range 100 {
		w.tick(k)
		w.way = r.Out()
		for len(w.way) > 0 && r.Role() != core.Leader {
			m := w.way[0]
			w.way = w.way[1:]
			if m.Kind == msg.VoteAsk || m.Kind == msg.VoteGive {
				w.hear(m)
				w.collect(m.To)
			}
		}
		if r.Role() == core.Leader {
			w.collect(k)
			return
		}
	}
	w.fail("%d does not lead", k)
}

// P16.2: what was proposed in an earlier term, by the same replica or by another one, is proposed again, and once; it
// is executed once.
func TestLaterTerm(t *testing.T) {
	for _, next := range []int{1, 2, 3} {
		w := settled(t, 3, 3)
		c := create(1, 4)
		w.do(1, c, 0)
		term := w.reps[1].Term()
		if next != 1 {
			// It has the entry, but nobody knows that it is committed.
			for _, m := range w.way {
				w.hear(m)
			}
		}
		w.elect(next)
		r := w.reps[next]
		if r.Term() <= term || r.State().At() >= r.Last()-1 || w.entries(next, c) != 1 {
			t.Fatal(w.show())
		}
		for range 3 {
			if a := w.do(next, c, 0); a.E != api.ErrUnavail || w.entries(next, c) != 2 {
				t.Error(a, w.entries(next, c))
			}
		}
		a, rounds := w.ask(c)
		w.rounds(3)
		kids, _ := w.reps[2].State().Kids("/")
		if !a.Result.Same(w.results[a.Result.When]) || len(kids) != 1 || rounds > 3 || w.entries(next, c) != 2 {
			t.Error(next, a, kids, rounds)
		}
	}
}

// P16.2: a leader whose log is full does not propose, but later it does.
func TestFullLog(t *testing.T) {
	w := settled(t, 3, 3)
	lead := w.leader()
	r := w.reps[lead]
	w.lazy = true
	for req := 4; req < 60; req++ {
		was := r.Last()
		if a := w.do(lead, set(1, req, "x"), 0); a.E != api.ErrUnavail {
			t.Fatal(a)
		}
		if full := was-r.First()+1 > core.LogSize-core.Spare; (r.Last() == was) != full {
			w.fail("Last was %d", was)
		}
	}
	if r.Last()-r.First()+1 != core.LogSize-core.Spare+1 {
		w.fail("not full")
	}
	if _, rounds := w.ask(set(1, 59, "y")); rounds > 3 {
		t.Error(rounds)
	}
	if n := w.entries(lead, set(1, 59, "y")); n != 1 {
		t.Error(n)
	}
}

// P16.2: a leader that has found damage, and does not know it yet as such, does not propose.
func TestUncleanLeader(t *testing.T) {
	w := settled(t, 3, 3)
	lead := w.leader()
	r := w.reps[lead]
	last := r.Last()
	w.devs[lead].Lose(logBase + 2)
	r.Scrub()
	want := w.only(lead, 1)
	want.E = api.ErrUnavail
	w.want(lead, "unclean", w.do(lead, set(1, 4, "x"), 0), want)
	if r.Role() != core.Leader || r.Last() != last {
		t.Error(w.show())
	}
	r.Tick()
	want = w.only(lead, 1)
	want.E = api.ErrLeader
	w.want(lead, "not leader", w.do(lead, set(1, 4, "x"), 0), want)
	if _, rounds := w.ask(set(1, 4, "x")); rounds > 110 {
		t.Error(rounds)
	}
}

// P16.4: a session that was closed is opened again in the same term, by the same leader, and its requests are executed.
func TestReopened(t *testing.T) {
	w := settled(t, 3, 0)
	term := w.reps[1].Term()
	for i := range 5 {
		for _, c := range []op.Cmd{open(2), create(2, 1), shut(2, 2), open(2), create(2, 1), create(2, 2), shut(2, 3)} {
			last := w.reps[1].Last()
			for range 2 {
				if _, ok := w.try(c, w.known); ok || w.reps[1].Last() != last+1 {
					w.fail("%v was not proposed once", c)
				}
			}
			if a, rounds := w.ask(c); a.E != api.OK || a.Result.E != api.OK || rounds > 3 {
				w.fail("%d: %v: %v after %d", i, c, a, rounds)
			}
			if i%2 == 0 {
				w.rounds(2)
			}
		}
	}
	if kids, _ := w.reps[1].State().Kids("/"); len(kids) != 15 || w.reps[1].Term() != term {
		t.Error(kids)
	}
}

// P16.4: a session that there is no room for is opened when there is, and is not proposed time and again before.
func TestNoRoomForSession(t *testing.T) {
	w := settled(t, 3, 0)
	for id := 2; id <= api.MaxSess; id++ {
		w.ask(open(id))
	}
	w.rounds(2)
	last := w.reps[1].Last()
	for range 20 {
		for id := 17; id < 20; id++ {
			if a, ok := w.try(open(id), 0); ok {
				t.Fatal(a)
			}
		}
		// Nor can this one ever be.
		if a, ok := w.try(open(0), 0); ok {
			t.Fatal(a)
		}
		w.round()
	}
	if w.reps[1].Last() != last+4 {
		t.Error(w.reps[1].Last(), last)
	}
	for id := 17; id < 20; id++ {
		w.ask(shut(id-10, 1))
		last := w.reps[1].Last()
		for range 2 {
			if _, ok := w.try(open(id), w.known); ok || w.reps[1].Last() != last+1 {
				w.fail("%d was not proposed once", id)
			}
		}
		if _, rounds := w.ask(open(id)); rounds > 3 {
			t.Error(rounds)
		}
	}
	w.rounds(2)
	if !slices.Equal(w.reps[2].State().Sessions(), []int{1, 2, 3, 4, 5, 6, 10, 11, 12, 13, 14, 15, 16, 17, 18, 19}) {
		t.Error(w.reps[2].State().Sessions())
	}
}

// P16.2: Get returns what layer 9 does, of each path and for each session, also for one that does not exist.
func TestGet(t *testing.T) {
	w := settled(t, 3, 1)
	w.ask(op.Made(1, 2, op.Op{Does: op.Create, Path: "/a", Data: "of a", Version: -1}, op.Op{Does: op.Create, Path: "/a/d", Version: -1},
		op.Op{Does: op.Create, Path: "/a/c", Version: -1, Own: true}, op.Op{Does: op.Set, Path: "/a", Data: "a", Version: 0}))
	w.ask(op.Cmd{Kind: op.Watch, Session: 1, Req: 3, Path: "/a/d"})
	w.ask(op.Made(1, 4, op.Op{Does: op.Set, Path: "/a/d", Data: "d", Version: -1}))
	w.rounds(2)
	at := w.reps[1].State().At()
	for k := 1; k <= 3; k++ {
		for _, session := range []int{1, 2, 0, -1, math.MaxInt} {
			events := []watch.Event{{Session: 1, No: 1, Path: "/a/d", What: watch.Set, When: at}}
			if session != 1 {
				events = nil
			}
			for s, want := range map[string]Reply{
				"/":                           {Node: tree.Node{Version: 1, Below: 1, Set: 3}, Kids: []string{"a"}},
				"/a":                          {Node: tree.Node{Data: "a", Version: 1, Below: 2, Made: 4, Set: 4}, Kids: []string{"c", "d"}},
				"/a/c":                        {Node: tree.Node{Owner: 1, Made: 4, Set: 4}},
				"/a/d":                        {Node: tree.Node{Data: "d", Version: 1, Made: 4, Set: at}},
				"/b":                          {E: api.ErrNode},
				"/a/d/e":                      {E: api.ErrNode},
				"":                            {E: api.ErrPath},
				"a":                           {E: api.ErrPath},
				"/a/":                         {E: api.ErrPath},
				"/" + strings.Repeat("x", 60): {E: api.ErrPath},
			} {
				want.Events, want.At, want.Lead = events, at, w.leader()
				w.want(k, s, w.get(k, session, s, 0), want)
			}
		}
	}
}

// Rule 4: the parts of an answer are new.
func TestNewMemory(t *testing.T) {
	w := settled(t, 3, 1)
	w.ask(op.Cmd{Kind: op.Watch, Session: 1, Req: 2, Path: "/", Kids: true})
	c := op.Made(1, 3, op.Op{Does: op.Create, Path: "/a", Version: -1})
	w.do(w.leader(), c, 0)
	c.Ops[0].Path = "/b"
	w.round()
	was := w.reps[1].State().Bytes()
	for range 2 {
		a := w.reps[1].Get(1, "/", 0)
		if len(a.Kids) != 1 || a.Kids[0] != "a" || len(a.Events) != 1 || a.Events[0].No != 1 {
			t.Fatal(a)
		}
		a.Kids[0], a.Events[0] = "x", watch.Event{}
		b := w.reps[1].Do(op.Cmd{Kind: op.Update, Session: 1, Req: 3}, 0)
		if len(b.Result.Outs) != 1 || b.Result.Outs[0].Path != "/a" {
			t.Fatal(b)
		}
		b.Result.Outs[0].Path = "x"
	}
	if w.reps[1].State().Bytes() != was {
		t.Error("changed")
	}
}
