package core

import (
	"fmt"
	"math"
	"slices"
	"strings"
	"testing"

	"orchard/api"
	"orchard/chunk"
	"orchard/dev"
	"orchard/head"
	"orchard/msg"
	"orchard/plog"
)

// disk returns a device with a head, a log and, up to the entry before it, a snapshot.
func disk(t *testing.T, h head.Head, snapshot string, list ...plog.Entry) *dev.Device {
	t.Helper()
	d := dev.New(Blocks)
	store, e := head.Open(d)
	if e == api.OK {
		e = store.Put(h)
	}
	if e == api.OK && h.First > 1 {
		var shots *chunk.Store
		if shots, e = chunk.Open(d, 2); e == api.OK {
			e = shots.Put(h.First-1, h.Base, snapshot)
		}
	}
	if e == api.OK {
		var log *plog.Log
		if log, e = plog.Open(d, 2+132, 64, h.First); e == api.OK {
			e = log.Append(list...)
		}
	}
	if e != api.OK {
		t.Fatal(e)
	}
	return d
}

// entries returns entries with these terms.
func entries(first int, terms ...int) []plog.Entry {
	var list []plog.Entry
	for k, term := range terms {
		list = append(list, plog.Entry{Index: first + k, Term: term, Data: fmt.Sprintf("text %d", first+k)})
	}
	return list
}

// usual returns a device with a snapshot of three chunks up to entry 8, and the entries 9 to 11.
func usual(t *testing.T) *dev.Device {
	return disk(t, head.Head{Term: 7, First: 9, Base: 3}, strings.Repeat("s", 900), entries(9, 3, 5, 5)...)
}

// opened opens a replica, which must be possible.
func opened(t *testing.T, d *dev.Device, me, n int) *Core {
	t.Helper()
	c, e := Open(d, me, n)
	if c == nil || e != api.OK {
		t.Fatalf("Open of %d of %d: %v, %d", me, n, c, e)
	}
	return c
}

// face is what a replica tells.
func face(c *Core) string {
	i, data, e := c.Shot()
	s := fmt.Sprintln("role", c.Role(), "term", c.Term(), "lead", c.Lead(), "commit", c.Commit(), "first", c.First(),
		"last", c.Last(), "room", c.Room(), "shot", i, data, e, "wish", c.Wish(), "clean", c.Clean(), "err", c.Err())
	for i := c.First(); i <= c.Last(); i++ {
		x, state := c.Entry(i)
		s += fmt.Sprintln(x, state)
	}
	return s
}

// blocks is what a device holds.
func blocks(d *dev.Device) string {
	var b strings.Builder
	for i := range d.Size() {
		s, e := d.Read(i)
		fmt.Fprintf(&b, "%d: %q %d\n", i, s, e)
	}
	return b.String()
}

// P15.1: the constants.
func TestNumbers(t *testing.T) {
	if LogSize != 64 || Spare != 40 || Blocks != 2+132+128 {
		t.Error(LogSize, Spare, Blocks)
	}
	if Follower != 0 || Candidate != 1 || Leader != 2 || Lost != 3 {
		t.Error(Follower, Candidate, Leader, Lost)
	}
}

// P15.1: which arguments Open refuses.
func TestOpenArguments(t *testing.T) {
	for _, n := range []int{math.MinInt, -3, -1, 0, 1, 2, 3, 4, 5, 6, 7, 8, 9, 15, math.MaxInt} {
		for _, me := range []int{math.MinInt, -1, 0, 1, 2, 3, 4, 5, 6, 7, 8, n, n + 1, math.MaxInt} {
			for _, size := range []int{-1, 0, 1, Blocks - 1, Blocks, Blocks + 1, api.MaxBlocks} {
				d := dev.New(size)
				if size < 0 {
					d = nil
				}
				want := api.ErrArg
				if (n == 3 || n == 5 || n == 7) && me >= 1 && me <= n && size >= Blocks {
					want = api.OK
				}
				c, e := Open(d, me, n)
				if e != want || (c == nil) != (want != api.OK) {
					t.Errorf("Open(%d blocks, %d, %d): %v, %d", size, me, n, c, e)
				}
			}
		}
	}
}

// P15.1: a replica on a new device.
func TestNew(t *testing.T) {
	c := opened(t, dev.New(Blocks), 2, 5)
	want := "role 0 term 0 lead 0 commit 0 first 1 last 0 room 64 shot 0  7 wish 0 clean true err 0\n"
	if face(c) != want || len(c.Out()) != 0 {
		t.Error(face(c))
	}
	for _, i := range []int{math.MinInt, -1, 0, 1, 2, math.MaxInt} {
		if x, state := c.Entry(i); x != (plog.Entry{}) || state != plog.Gone {
			t.Error(i, x, state)
		}
	}
}

// P15.1: the head, the snapshots and the log are where the chapter says, and all of them are found.
func TestFound(t *testing.T) {
	c := opened(t, usual(t), 1, 3)
	want := "role 0 term 7 lead 0 commit 8 first 9 last 11 room 61 shot 8 " + strings.Repeat("s", 900) +
		" 0 wish 0 clean true err 0\n{9 3 text 9} 1\n{10 5 text 10} 1\n{11 5 text 11} 1\n"
	if face(c) != want {
		t.Error(face(c))
	}
	d := disk(t, head.Head{Term: 7, Vote: 2, First: 1}, "", entries(1, slices.Repeat([]int{4}, 64)...)...)
	if c := opened(t, d, 1, 3); c.Room() != 0 || c.Last() != 64 || c.Commit() != 0 || !c.Clean() {
		t.Error(face(c))
	}
}

// P15.1, P15.2: Open reads all, and tells what is damaged.
func TestOpenFindsDamage(t *testing.T) {
	for b, want := range map[int]bool{
		0: true, 1: true, // a copy of the head
		2: true, 3: true, // a copy of the List
		4: false, 5: false, 6: false, 7: true, // the three chunks, and a block behind
		70:      true,                                                                   // the other area
		134 + 8: true, 134 + 9: false, 134 + 10: false, 134 + 11: false, 134 + 12: true, // the entries
		198 + 9: true, 198 + 11: true, // marks
	} {
		for _, lose := range []bool{true, false} {
			d := usual(t)
			if lose {
				d.Lose(b)
			} else {
				d.Flip(b, 99, 4)
			}
			if c := opened(t, d, 1, 3); c.Clean() != want || c.Err() != api.OK || c.First() != 9 || c.Last() != 11 || c.Term() != 7 {
				t.Errorf("block %d, lost %v: %s", b, lose, face(c))
			}
		}
	}
}

// P15.1: layer 5's Scrub of the head: a damaged copy is written again, so that the other one can be damaged then.
func TestOpenScrubsHead(t *testing.T) {
	for _, b := range []int{0, 1} {
		d := usual(t)
		d.Lose(b)
		opened(t, d, 1, 3)
		d = d.Crash()
		d.Lose(1 - b)
		if c := opened(t, d, 1, 3); c.Role() != Follower || c.Term() != 7 || c.First() != 9 || !c.Clean() {
			t.Errorf("block %d: %s", b, face(c))
		}
	}
}

// P15.1: the device's first error, at any operation; what is durable remains.
func TestOpenWithoutPower(t *testing.T) {
	down := usual(t)
	down.Fall(0)
	down.Flush()
	if c, e := Open(down, 1, 3); c != nil || e != api.ErrDown {
		t.Error(c, e)
	}
	damaged := func() *dev.Device {
		d := usual(t)
		d.Lose(0)
		d.Lose(2)
		d.Lose(198 + 10)
		return d
	}
	want := face(opened(t, damaged(), 1, 3))
	for turns := 0; ; turns++ {
		d := damaged()
		d.Fall(turns)
		c, e := Open(d, 1, 3)
		if e == api.OK {
			if turns < 8 || face(c) != want {
				t.Errorf("after %d operations: %s", turns, face(c))
			}
			break
		}
		if c != nil || e != api.ErrDown {
			t.Fatal(turns, c, e)
		}
		for fate := dev.Lost; fate <= dev.Torn; fate++ {
			if c := opened(t, d.Crash(fate, fate, fate), 1, 3); face(c) != want {
				t.Errorf("after %d operations, %d: %s", turns, fate, face(c))
			}
		}
	}
}

// P15.1: a replica whose head is lost does nothing any more.
func TestLost(t *testing.T) {
	spoils := map[string]func(d *dev.Device){
		"lost":    func(d *dev.Device) { d.Lose(0); d.Lose(1) },
		"flipped": func(d *dev.Device) { d.Flip(0, 7, 1); d.Flip(1, 30, 128) },
		"both":    func(d *dev.Device) { d.Flip(0, 7, 1); d.Lose(1) },
	}
	for name, spoil := range spoils {
		d := usual(t)
		spoil(d)
		c := opened(t, d, 1, 3)
		was := blocks(d)
		want := "role 3 term 0 lead 0 commit 0 first 1 last 0 room 0 shot 0  6 wish 0 clean false err 0\n"
		for range 100 {
			c.Tick()
			c.Scrub()
			c.Hear(msg.Msg{Kind: msg.VoteAsk, From: 2, To: 1, Term: 99, Index: 99, LogTerm: 99})
			c.Hear(msg.Msg{Kind: msg.Feed, From: 2, To: 1, Term: 99, Entries: entries(1, 99)})
		}
		if face(c) != want || len(c.Out()) > 0 || blocks(d) != was {
			t.Errorf("%s: %s", name, face(c))
		}
		if i, e := c.Propose("x"); i != 0 || e != api.ErrLeader {
			t.Error(name, i, e)
		}
		for _, i := range []int{-1, 0, 1, 9, 10} {
			if e := c.Compact(i, "x"); e != api.ErrUnavail {
				t.Error(name, i, e)
			}
			if x, state := c.Entry(i); x != (plog.Entry{}) || state != plog.Gone {
				t.Error(name, i, x, state)
			}
		}
	}
}

// P15.1: a nil Core has nothing to send.
func TestNil(t *testing.T) {
	var c *Core
	if list := c.Out(); len(list) != 0 {
		t.Error(list)
	}
}

// P15.1: Out returns each message once, in memory of its own.
func TestOut(t *testing.T) {
	c := opened(t, usual(t), 1, 3)
	for range 30 {
		c.Tick()
	}
	a := c.Out()
	if len(a) < 2 || len(c.Out()) != 0 {
		t.Error(a)
	}
	c.Hear(msg.Msg{Kind: msg.VoteGive, From: 2, To: 1, Term: c.Term(), Ok: true})
	b := c.Out()
	if c.Role() != Leader || len(b) < 2 || len(b[0].Entries) == 0 {
		t.Fatal(face(c), b)
	}
	b[0].Entries[0].Data = "changed"
	if b[1].Entries[0].Data == "changed" {
		t.Error("two messages share their entries")
	}
	c.Tick()
	for _, m := range c.Out() {
		for _, x := range m.Entries {
			if x.Data == "changed" {
				t.Error("what Out returned is sent again")
			}
		}
	}
}

// P15.1: after the first error of its device a replica does nothing any more, whatever it was doing.
func TestDeviceError(t *testing.T) {
	ways := map[string]func(c *Core){
		"Propose": func(c *Core) {
			if i, e := c.Propose("x"); i != 0 || e != api.ErrDown {
				t.Error(i, e)
			}
		},
		"Compact": func(c *Core) {
			if e := c.Compact(c.Commit(), "x"); e != api.ErrDown {
				t.Error(e)
			}
		},
		"Hear": func(c *Core) {
			c.Hear(msg.Msg{Kind: msg.VoteAsk, From: 2, To: 1, Term: 99, Index: 99, LogTerm: 99})
		},
		"Scrub": func(c *Core) { c.Scrub() },
		"Shot":  func(c *Core) { c.Shot() },
		"Entry": func(c *Core) { c.Entry(c.Last()) },
	}
	for name, fail := range ways {
		w := settled(t, 3)
		c, d := w.cores[1], w.devs[1]
		if e := c.Compact(c.Commit()-2, "some"); e != api.OK {
			t.Fatal(e)
		}
		c.Propose("more")
		d.Fall(0)
		if name == "Scrub" || name == "Shot" || name == "Entry" {
			d.Flush()
		}
		fail(c)
		if c.Err() != api.ErrDown {
			t.Error(name, c.Err())
		}
		w.devs[1] = d.Crash()
		was := fmt.Sprintln(c.Role(), c.Term(), c.Lead(), c.Commit(), c.First(), c.Last(), c.Room(), c.Wish())
		for range 50 {
			c.Tick()
			c.Scrub()
			c.Hear(msg.Msg{Kind: msg.VoteAsk, From: 2, To: 1, Term: 100, Index: 99, LogTerm: 99})
			c.Hear(msg.Msg{Kind: msg.Feed, From: 2, To: 1, Term: 100, Index: c.Last()})
		}
		if x := fmt.Sprintln(c.Role(), c.Term(), c.Lead(), c.Commit(), c.First(), c.Last(), c.Room(), c.Wish()); x != was || c.Err() != api.ErrDown || c.Role() == Leader {
			t.Error(name, was, x, c.Err())
		}
		if list := c.Out(); len(list) != 0 {
			t.Error(name, list)
		}
		if i, e := c.Propose("x"); i != 0 || e != api.ErrLeader {
			t.Error(name, i, e)
		}
		if e := c.Compact(c.Commit(), "x"); e != api.ErrUnavail {
			t.Error(name, e)
		}
	}
}

// settled returns replicas of which the first one leads, with ten entries that all have committed.
func settled(t *testing.T, n int) *world {
	t.Helper()
	w := newWorld(t, n, 1)
	w.until(30, "led", func() bool { return w.leader() != 0 })
	w.add(10)
	if w.leader() != 1 {
		w.fail("1 does not lead")
	}
	return w
}

// add lets the leader propose entries, and all commit them.
func (w *world) add(count int) {
	w.t.Helper()
	for range count {
		if i, e := w.propose(w.leader()); e != api.OK || i != w.cores[w.leader()].Last() {
			w.fail("Propose: %d, %d", i, e)
		}
		w.collect(w.leader())
		w.round()
	}
	w.until(6, "level", w.level)
}
