package replica

import (
	"fmt"
	"strings"
	"testing"

	"orchard/api"
	"orchard/chunk"
	"orchard/core"
	"orchard/dev"
	"orchard/msg"
	"orchard/op"
)

// shots checks that each snapshot is the Bytes of the State of its index.
func (w *world) shots() {
	w.t.Helper()
	for k := 1; k <= w.n; k++ {
		i, text, e := w.reps[k].Shot()
		if e == api.OK && text != w.states[i].Bytes() || e != api.OK && e != api.ErrNone {
			w.fail("%d: snapshot of %d: %d", k, i, e)
		}
	}
}

// P16.1: snapshots are stored from time to time, so that there is always room; they are the State's Bytes.
func TestFromTimeToTime(t *testing.T) {
	for _, n := range []int{3, 5, 7} {
		w := settled(t, n, 0)
		for req := 1; req <= 200; req++ {
			if _, rounds := w.ask(set(1, req, fmt.Sprint(req))); rounds > 2 {
				w.fail("%d took %d rounds", req, rounds)
			}
			w.shots()
			for k := 1; k <= n; k++ {
				if room := w.reps[k].Room(); room < core.Spare-2 {
					w.fail("%d: Room %d", k, room)
				}
			}
		}
		for k := 1; k <= n; k++ {
			r := w.reps[k]
			// Who lags a little behind needs no snapshot.
			if r.First() < 100 || r.Last()-r.First() < 8 {
				w.fail("%d: First %d, Last %d", k, r.First(), r.Last())
			}
		}
	}
}

// P16.1: no more snapshots are stored than are of use.
func TestFewSnapshots(t *testing.T) {
	w := settled(t, 3, 20)
	for k := 1; k <= 3; k++ {
		if _, _, e := w.reps[k].Shot(); e != api.ErrNone {
			t.Error(k, e)
		}
	}
	count, was := 0, 0
	for req := 21; req <= 100; req++ {
		w.ask(set(1, req, "x"))
		w.round()
		if i, _, _ := w.reps[1].Shot(); i != was {
			count, was = count+1, i
		}
	}
	if count < 9 || count > 12 {
		t.Error(count)
	}
}

// P16.1: each committed entry can be seen in the log after the call that committed it.
func TestCommittedIsSeen(t *testing.T) {
	w := settled(t, 3, 0)
	w.lazy = true
	for req := 1; req <= 200; req++ {
		for range req % 30 {
			req++
			w.do(1, set(1, req, "x"), 0)
		}
		w.round()
	}
	for i, text := range w.texts[1:] {
		if text == unknown {
			t.Error(i + 1)
		}
	}
	if len(w.texts) < 100 {
		t.Error(len(w.texts))
	}
}

// P16.1: a replica that was absent takes the snapshot of another one, and goes on from there.
func TestTakenFromOthers(t *testing.T) {
	for _, n := range []int{3, 5, 7} {
		for away := 1; away <= n; away++ {
			w := settled(t, n, 3)
			w.off[away] = true
			w.led()
			for req := 4; req <= 60; req++ {
				w.ask(create(1, req))
			}
			at := w.reps[away].State().At()
			if w.reps[w.leader()].First() <= at+1 {
				w.fail("no snapshot")
			}
			clear(w.off)
			w.until(100, "level", func() bool { return w.well() && w.level() })
			w.shots()
			if i, _, e := w.reps[away].Shot(); i <= at || e != api.OK {
				w.fail("%d: %d", i, e)
			}
			if _, rounds := w.ask(set(1, 61, "x")); rounds > 10 {
				t.Error(rounds)
			}
		}
	}
}

// P16.1: a replica that lags a little behind needs only entries.
func TestLagsALittle(t *testing.T) {
	w := settled(t, 3, 30)
	w.off[3] = true
	for req := 31; req <= 45; req++ {
		w.ask(set(1, req, "x"))
	}
	if w.reps[w.leader()].First() < 17 {
		w.fail("no snapshot")
	}
	clear(w.off)
	w.rounds(2)
	if !w.well() || w.kinds[msg.ShotGive] > 0 {
		w.fail("it took a snapshot")
	}
}

// P15.5: a snapshot is stored where another replica wants one; the one up to that entry, or a later one.
func TestWish(t *testing.T) {
	for _, x := range []struct{ updates, commit, wish, low, high int }{
		{3, 3, 1, 1, 5}, {3, 5, 5, 5, 5}, {12, 14, 6, 8, 8}, {12, 14, 8, 8, 8}, {12, 14, 9, 9, 14}, {12, 9, 9, 9, 14},
	} {
		w := settled(t, 3, x.updates)
		r := w.reps[2]
		r.Hear(msg.Msg{Kind: msg.ShotAsk, From: 3, To: 2, Term: r.Term(), Index: x.wish, Commit: x.commit, LogTerm: r.Term()})
		w.check(2)
		if r.Wish() != x.wish {
			t.Fatal(x, r.Wish())
		}
		w.tick(2)
		if i, _, e := r.Shot(); i < x.low || i > x.high || e != api.OK || r.Wish() != 0 || !r.Clean() {
			t.Error(x, i, e, r.Wish())
		}
		w.shots()
	}
	// After a failure of the power it does not know yet what is committed; who wants a snapshot tells it.
	w := settled(t, 3, 3)
	w.crash(2)
	r := w.reps[2]
	r.Hear(msg.Msg{Kind: msg.ShotAsk, From: 3, To: 2, Term: r.Term(), Index: 3, Commit: 4, LogTerm: r.Term()})
	if w.check(2); r.State().At() != 4 {
		t.Fatal(w.show())
	}
	w.tick(2)
	if i, _, e := r.Shot(); i < 3 || e != api.OK || r.Wish() != 0 {
		t.Error(i, e)
	}
}

// P16.1: a snapshot that is wanted up to an entry that the State does not reach yet is stored when it does.
func TestWishTooFar(t *testing.T) {
	w := settled(t, 3, 10)
	w.devs[2].Lose(logBase + 6)
	w.crash(2)
	r := w.reps[2]
	r.Hear(msg.Msg{Kind: msg.ShotAsk, From: 3, To: 2, Term: r.Term(), Index: 9, Commit: 12, LogTerm: r.Term()})
	w.tick(2)
	if _, _, e := r.Shot(); r.State().At() != 5 || r.Wish() != 9 || e != api.ErrNone || r.First() != 1 {
		t.Fatal(w.show())
	}
	w.until(100, "level", func() bool { return w.well() && w.level() })
	if i, _, e := r.Shot(); i < 9 || e != api.OK {
		t.Error(i, e)
	}
	w.shots()
}

// P16.1: also a replica that is hardly ever ticked stores snapshots, so that there is always room.
func TestHardlyTicked(t *testing.T) {
	w := settled(t, 3, 0)
	lead := w.leader()
	for req := 1; req <= 150; req++ {
		for range 3 {
			w.do(lead, set(1, req, "x"), 0)
			w.tick(lead)
			w.collect(lead)
			w.drain()
		}
		for k := 1; k <= 3; k++ {
			if r := w.reps[k]; r.Room() < core.Spare-8 || r.State().At() < req {
				w.fail("%d has no room, or lags", k)
			}
		}
	}
}

// P16.1, P15.5: a snapshot that is missing, or damaged, is another one's again, also of the only one that has one.
func TestSnapshotLost(t *testing.T) {
	for away := 1; away <= 3; away++ {
		w := settled(t, 3, 20)
		r := w.reps[away]
		if e := r.Compact(r.State().At(), r.State().Bytes()); e != api.OK {
			t.Fatal(e)
		}
		for _, b := range []int{0, 1} {
			w.devs[away].Lose(shotBase + b)
		}
		w.crash(away)
		if w.reps[away].State() != nil || w.get(away, 1, "/", 0).E != api.ErrUnavail {
			w.fail("it has a State")
		}
		w.until(100, "level", func() bool { return w.well() && w.level() })
		w.shots()
	}
}

// P16.1: whenever the power fails while snapshots are stored, the State is that of one of them, or none's.
func TestSnapshotWithoutPower(t *testing.T) {
	stored := 0
	for turns := range 60 {
		for fate := dev.Lost; fate <= dev.Torn; fate++ {
			w := settled(t, 3, 22)
			lead := w.leader()
			w.do(lead, create(1, 23), 0)
			w.devs[lead].Fall(turns)
			w.rounds(2)
			w.crash(lead, fate, fate, fate, fate, fate)
			s := w.reps[lead].State()
			if s == nil {
				w.fail("no State")
			}
			if s.At() > 0 {
				stored++
			}
			w.until(100, "level", func() bool { return w.well() && w.level() })
			w.ask(create(1, 23))
			if kids, _ := w.reps[w.leader()].State().Kids("/"); len(kids) != 1 {
				w.fail("%v", kids)
			}
		}
	}
	if stored == 0 || stored == 180 {
		t.Error(stored)
	}
}

// P16.1: the greatest State there can be is stored, and taken from others.
func TestGreatestState(t *testing.T) {
	w := settled(t, 3, 0)
	part := strings.Repeat("p", 20)
	deep := "/" + part + "/" + part
	data := strings.Repeat("d", api.MaxData)
	w.ask(op.Made(1, 1, op.Op{Does: op.Create, Path: "/" + part, Data: data, Version: -1}, op.Op{Does: op.Create, Path: deep, Data: data, Version: -1}))
	leaf := func(i int) string { return deep + "/" + part[:15] + fmt.Sprintf("%02d", i) }
	for i := range api.MaxNodes - 3 {
		w.ask(op.Made(1, 2+i, op.Op{Does: op.Create, Path: leaf(i), Data: data, Version: -1}))
	}
	req := 100
	for id := 1; id <= api.MaxSess; id++ {
		w.ask(open(id))
		for i := range 3 {
			if req++; id*3+i < api.MaxWatch+3 {
				w.ask(op.Cmd{Kind: op.Watch, Session: id, Req: req, Path: leaf(i), Kids: i == 2})
			}
		}
	}
	s := w.reps[w.leader()].State()
	if s.Len() != api.MaxNodes || len(s.Watches()) != api.MaxWatch || len(s.Sessions()) != api.MaxSess {
		t.Fatal(s.Len(), len(s.Watches()), len(s.Sessions()))
	}
	w.off[3] = true
	w.led()
	for i := range 5 {
		check := op.Op{Does: op.Check, Path: leaf(i), Version: -1}
		w.ask(op.Made(1, 200+i, op.Op{Does: op.Set, Path: leaf(i % 2), Data: data, Version: -1}, check, check))
	}
	for i := range 40 {
		id := i%api.MaxSess + 1
		check := op.Op{Does: op.Check, Path: leaf(i), Version: -1}
		w.ask(op.Made(id, 300+i, check, check, check))
	}
	lead := w.reps[w.leader()]
	i, text, e := lead.Shot()
	if e != api.OK || len(text) < 17000 || len(chunk.Cut(text)) > chunk.MaxChunks {
		t.Fatal(i, len(text), e)
	}
	clear(w.off)
	if rounds := w.until(100, "level", func() bool { return w.well() && w.level() }); rounds > 30 {
		t.Error(rounds)
	}
	w.shots()
	if w.reps[3].First() <= i {
		w.fail("it took none")
	}
	if w.most > 2000 {
		t.Error(w.most)
	}
}

// The greatest State, with all answers and events that there can be, is not too long for a snapshot.
func TestStateFits(t *testing.T) {
	node, answer := 2+60+2+60+6*6, 4*6+4*(2+60+6)
	watch, event := 6+2+60+2, 6+6+2+60+6+6
	most := 6 + 6 + api.MaxNodes*node + 6 + api.MaxSess*(6+6+2+answer) +
		6 + api.MaxWatch*watch + 6 + api.MaxSess*api.MaxEvents*event + 6 + api.MaxSess*12
	if most > chunk.MaxChunks*chunk.Size {
		t.Error(most)
	}
}
