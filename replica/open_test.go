package replica

import (
	"math"
	"strings"
	"testing"

	"orchard/api"
	"orchard/chunk"
	"orchard/core"
	"orchard/dev"
	"orchard/head"
	"orchard/msg"
	"orchard/op"
	"orchard/plog"
	"orchard/state"
)

// settled returns replicas that have opened session 1, done so many updates of it, and know the same State.
func settled(t *testing.T, n, updates int) *world {
	t.Helper()
	w := newWorld(t, n, 1)
	w.led()
	w.ask(op.Cmd{Kind: op.Open, Session: 1})
	for i := range updates {
		w.ask(set(1, i+1, strings.Repeat("x", i%60)))
	}
	w.rounds(7)
	if !w.well() || !w.level() {
		w.fail("not settled")
	}
	return w
}

// P16.1: Open returns layer 15's errors, and no replica with them.
func TestOpenErrors(t *testing.T) {
	down := dev.New(core.Blocks)
	down.Fall(0)
	down.Flush()
	devs := []*dev.Device{nil, dev.New(0), dev.New(core.Blocks - 1), dev.New(core.Blocks), dev.New(api.MaxBlocks), down}
	ok := 0
	for _, d := range devs {
		for _, n := range []int{math.MinInt, -3, 0, 1, 2, 3, 4, 5, 6, 7, 8, 9, math.MaxInt} {
			for _, me := range []int{math.MinInt, -1, 0, 1, 2, 3, n - 1, n, n + 1, math.MaxInt} {
				_, want := core.Open(d.Clone(), me, n)
				r, e := Open(d.Clone(), me, n)
				if e != want || (r == nil) != (e != api.OK) {
					t.Error(d.Size(), me, n, e, want)
				}
				if e == api.OK {
					ok++
				}
			}
		}
	}
	if ok == 0 {
		t.Error("none was opened")
	}
}

// P16.1: the error of a device that fails while Open writes is returned.
func TestOpenWithoutPower(t *testing.T) {
	w := settled(t, 3, 30)
	failed := false
	for turns := range 9 {
		d := w.devs[1].Crash()
		d.Lose(0)
		d.Lose(2)
		d.Fall(turns)
		r, e := Open(d, 1, 3)
		if e != api.OK && (e != api.ErrDown || r != nil) {
			t.Error(turns, e)
		}
		failed = failed || e != api.OK
	}
	if !failed {
		t.Error("it never failed")
	}
}

// P16.1: a new replica knows the State before the first entry.
func TestOpenNew(t *testing.T) {
	for _, n := range []int{3, 5, 7} {
		for me := 1; me <= n; me++ {
			r, e := Open(dev.New(core.Blocks), me, n)
			if e != api.OK || r.State() == nil || !r.State().Is(state.New()) || r.Role() != core.Follower {
				t.Error(n, me, e)
			}
			if a := r.Get(1, "/", 0); !same(a, Reply{}) {
				t.Error(a)
			}
		}
	}
}

// P16.1: after Open State is that of the snapshot; when the replica hears what is committed it is that.
func TestOpenAgain(t *testing.T) {
	for _, updates := range []int{0, 5, 60} {
		w := settled(t, 3, updates)
		was := w.reps[1].State()
		for k := 1; k <= 3; k++ {
			w.crash(k)
			s := w.reps[k].State()
			if s == nil || s.At() != w.reps[k].First()-1 || (updates == 60) != (s.At() > 0) {
				w.fail("State of %d", k)
			}
		}
		w.led()
		w.rounds(2)
		for k := 1; k <= 3; k++ {
			s := w.reps[k].State()
			if s.At() != was.At()+1 || !s.Tree.Same(was.Tree) || !s.Has(1) {
				w.fail("State of %d", k)
			}
		}
	}
}

// P16.1: State is nil for a Lost replica, which answers nothing and does nothing.
func TestLost(t *testing.T) {
	w := settled(t, 3, 30)
	w.devs[1].Lose(0)
	w.devs[1].Lose(1)
	w.crash(1)
	r := w.reps[1]
	if r.Role() != core.Lost || r.State() != nil {
		t.Fatal(w.show())
	}
	for range 30 {
		w.round()
		for _, least := range []int{-1, 0, 1} {
			w.get(1, 1, "/", least)
			w.do(1, set(1, 31, "x"), least)
			w.do(1, op.Cmd{Kind: op.Open, Session: 1}, least)
		}
		if r.State() != nil || len(r.Out()) > 0 {
			t.Fatal("it does something")
		}
	}
	w.off[1] = true
	w.led()
	w.ask(set(1, 31, "x"))
}

// P16.1: State is nil as long as the snapshot is damaged or missing, and then that of all others.
func TestNoSnapshot(t *testing.T) {
	other := state.New()
	other.Apply("")
	list := map[string]func(w *world, d *dev.Device){
		"first chunk":   func(w *world, d *dev.Device) { d.Lose(2 + 2); d.Lose(2 + 66 + 2) },
		"flipped chunk": func(w *world, d *dev.Device) { d.Flip(2+2, 9, 1); d.Flip(2+66+2, 90, 8) },
		"both Lists": func(w *world, d *dev.Device) {
			for _, b := range []int{2, 3, 2 + 66, 2 + 67} {
				d.Lose(b)
			}
		},
		"no state":      func(w *world, d *dev.Device) { replace(w, d, "no state") },
		"another state": func(w *world, d *dev.Device) { replace(w, d, other.Bytes()) },
		"longer":        func(w *world, d *dev.Device) { replace(w, d, w.states[w.reps[1].First()-1].Bytes()+"x") },
	}
	for name, spoil := range list {
		w := settled(t, 3, 40)
		w.name = name
		w.devs[1] = w.devs[1].Crash()
		spoil(w, w.devs[1])
		// Not opened by the world, whose checks ask for a damaged snapshot.
		r, e := Open(w.devs[1], 1, 3)
		if e != api.OK || r.State() != nil || r.First() < 8 {
			t.Fatal(name, e, r.First())
		}
		for _, least := range []int{-1, 0, 1} {
			if a := r.Get(1, "/", least); !same(a, Reply{E: api.ErrUnavail}) {
				t.Error(name, a)
			}
			if a := r.Do(op.Cmd{Kind: op.Open, Session: 1}, least); !same(a, Reply{E: api.ErrUnavail}) {
				t.Error(name, a)
			}
		}
		if r.Clean() {
			continue // it is whole, but no state
		}
		w.reps[1], w.ats[1] = r, 0
		w.until(100, "level", func() bool { return w.well() && w.level() })
		if w.get(1, 1, "/", 1).E != api.OK {
			t.Error(name)
		}
	}
}

// replace replaces the snapshot on a device by one of another text.
func replace(w *world, d *dev.Device, text string) {
	i := w.reps[1].First() - 1
	for b := range chunk.Blocks {
		d.Write(shotBase+b, "")
	}
	d.Flush()
	h, e := head.Open(d)
	s, x := chunk.Open(d, shotBase)
	if e != api.OK || x != api.OK || s.Put(i, h.Head().Base, text) != api.OK {
		w.fail("replace: %d %d", e, x)
	}
}

// P16.1: State goes as far as the entries are there; the rest follows when they are repaired.
func TestDamagedEntry(t *testing.T) {
	for _, mark := range []bool{false, true} {
		w := settled(t, 3, 10)
		at := w.reps[2].State().At()
		w.devs[3] = w.devs[3].Crash()
		w.devs[3].Lose(logBase + 6)
		if mark {
			w.devs[3].Lose(logBase + core.LogSize + 6)
		}
		w.open(3)
		r := w.reps[3]
		if r.State().At() != 0 {
			t.Fatal(w.show())
		}
		// It hears how far all is committed, and cannot have heard of what it lacks.
		r.Hear(msg.Msg{Kind: msg.ShotAsk, From: 1, To: 3, Term: r.Term(), Index: 1, Commit: at, LogTerm: r.Term()})
		w.check(3)
		if r.Commit() != at || r.State().At() != 5 || !r.State().Is(w.states[5]) {
			t.Fatal(w.show())
		}
		if a := w.get(3, 1, "/", 5); a.E != api.OK || a.At != 5 {
			t.Error(a)
		}
		w.get(3, 1, "/", 6)
		w.until(100, "level", func() bool { return w.well() && w.level() })
		if r.State().At() < at {
			t.Error(w.show())
		}
	}
}

// P16.2: after an error of the device nothing is answered, also not by a call during which it fails.
func TestDeviceError(t *testing.T) {
	for turns := range 6 {
		w := settled(t, 3, 3)
		lead := w.leader()
		r := w.reps[lead]
		w.devs[lead].Fall(turns)
		a := r.Do(set(1, 4, "x"), 0)
		if a.E != api.ErrUnavail || (r.Err() != api.OK) != same(a, Reply{E: api.ErrUnavail}) {
			t.Error(turns, a, r.Err())
		}
		if turns < 4 && r.Err() == api.OK {
			t.Error(turns, "it still has power")
		}
		if r.Err() == api.OK {
			continue
		}
		for _, a := range []Reply{r.Get(1, "/", 0), r.Do(set(1, 3, "x"), -5), r.Do(op.Cmd{Kind: op.Open, Session: 1}, 0), r.Do(set(1, 4, "x"), 0)} {
			if !same(a, Reply{E: api.ErrUnavail}) {
				t.Error(turns, a)
			}
		}
		for range 300 {
			r.Tick()
			r.Hear(msg.Msg{Kind: msg.VoteAsk, From: 4 - lead, To: lead, Term: 99, Index: 99, LogTerm: 99})
		}
		if len(r.Out()) > 0 || r.Err() != api.ErrDown {
			t.Error("it does something")
		}
		w.crash(lead)
		w.ask(set(1, 4, "x"))
	}
}

// P16.2: a nil Replica answers nothing.
func TestNil(t *testing.T) {
	var r *Replica
	for _, least := range []int{math.MinInt, -1, 0, 1, math.MaxInt} {
		if a := r.Do(op.Cmd{Kind: op.Open, Session: 1}, least); !same(a, Reply{E: api.ErrUnavail}) {
			t.Error(a)
		}
		if a := r.Do(op.Cmd{}, least); !same(a, Reply{E: api.ErrUnavail}) {
			t.Error(a)
		}
		if a := r.Get(1, "/", least); !same(a, Reply{E: api.ErrUnavail}) {
			t.Error(a)
		}
	}
	if r.State() != nil {
		t.Error("State")
	}
	r.Tick()
	r.Hear(msg.Msg{})
}

// P16.1: what is committed and available is applied after each Hear, and each Tick, also if the core alone has heard of
// it.
func TestApplied(t *testing.T) {
	for _, tick := range []bool{false, true} {
		w := settled(t, 3, 1)
		lead := w.leader()
		k := lead%3 + 1
		r := w.reps[k]
		w.do(lead, set(1, 2, "y"), 0)
		w.drain()
		w.tick(lead)
		w.collect(lead)
		for _, m := range w.way {
			if m.To == k && tick {
				r.Core.Hear(m)
			} else if m.To == k {
				r.Hear(m)
			}
		}
		if tick {
			if r.State().At() != 3 {
				w.fail("applied before")
			}
			r.Tick()
		}
		w.check(k)
		if r.State().At() != 4 || r.Commit() != 4 {
			w.fail("not applied")
		}
	}
}

// P16.1: what Tick and Hear do is what layer 15's do, as long as no snapshot is stored.
func TestAsCore(t *testing.T) {
	for _, n := range []int{3, 5, 7} {
		w := newWorld(t, n, 1)
		var cores []*core.Core
		for k := 1; k <= n; k++ {
			c, e := core.Open(dev.New(core.Blocks), k, n)
			if e != api.OK {
				t.Fatal(e)
			}
			cores = append(cores, c)
		}
		for i := range 60 {
			for k := 1; k <= n; k++ {
				cores[k-1].Tick()
				w.reps[k].Tick()
			}
			if lead := w.leader(); i%9 == 0 && lead != 0 {
				_, a := cores[lead-1].Propose("x")
				_, b := w.reps[lead].Propose("x")
				if a != b {
					t.Error(a, b)
				}
			}
			for k := 1; k <= n; k++ {
				list := w.reps[k].Out()
				other := cores[k-1].Out()
				if len(list) != len(other) {
					t.Fatal(n, i, k, list, other)
				}
				for j, m := range list {
					if !m.Same(other[j]) {
						t.Fatal(n, i, k, m, other[j])
					}
					cores[m.To-1].Hear(m)
					w.reps[m.To].Hear(m)
				}
			}
		}
		for k := 1; k <= n; k++ {
			c, r := cores[k-1], w.reps[k]
			if c.Commit() != r.Commit() || c.Last() != r.Last() || c.Term() != r.Term() || c.Lead() != r.Lead() || r.State().At() != c.Commit() {
				t.Error(w.show())
			}
			for i := c.First(); i <= c.Last(); i++ {
				x, is := r.Entry(i)
				if y, _ := c.Entry(i); x != y || is != plog.Good {
					t.Error(i, x, y)
				}
			}
		}
		if w.leader() == 0 {
			t.Error("no leader")
		}
	}
}
