package core

import (
	"fmt"
	"math"
	"slices"
	"strings"
	"testing"

	"orchard/api"
	"orchard/chunk"
	"orchard/dev"
	"orchard/head"
	"orchard/msg"
	"orchard/plog"
	"orchard/sum"
)

// P15.2: Shot of a replica that has a snapshot, none, one that is damaged or missing; and what Clean reports then.
func TestShot(t *testing.T) {
	text := strings.Repeat("s", 900)
	type result struct {
		index int
		data  string
		e     api.Errno
		clean bool
	}
	list := map[string]struct {
		spoil func(d *dev.Device)
		want  result
	}{
		"intact":           {func(d *dev.Device) {}, result{8, text, api.OK, true}},
		"one List":         {func(d *dev.Device) { d.Lose(2) }, result{8, text, api.OK, true}},
		"the other List":   {func(d *dev.Device) { d.Flip(3, 9, 9) }, result{8, text, api.OK, true}},
		"both Lists":       {func(d *dev.Device) { d.Lose(2); d.Flip(3, 9, 9) }, result{0, "", api.ErrBad, false}},
		"first chunk":      {func(d *dev.Device) { d.Lose(4) }, result{0, "", api.ErrBad, false}},
		"last chunk":       {func(d *dev.Device) { d.Flip(6, 50, 1) }, result{0, "", api.ErrBad, false}},
		"the other area":   {func(d *dev.Device) { d.Lose(2 + 66); d.Lose(2 + 67); d.Lose(2 + 68) }, result{8, text, api.OK, true}},
		"the entry behind": {func(d *dev.Device) { d.Lose(134 + 9) }, result{8, text, api.OK, false}},
	}
	for name, x := range list {
		for _, late := range []bool{false, true} {
			d := usual(t)
			c := opened(t, d, 1, 3)
			x.spoil(d)
			if !late {
				c = opened(t, d, 1, 3)
			} else if name == "both Lists" {
				continue // what was read once is not read again
			}
			i, data, e := c.Shot()
			if late && name == "the entry behind" {
				c.Scrub()
			}
			if got := (result{i, data, e, c.Clean()}); got != x.want {
				t.Errorf("%s, late %v: %v", name, late, got)
			}
		}
	}
	for _, d := range []*dev.Device{dev.New(Blocks), disk(t, head.Head{Term: 7, First: 1}, "", entries(1, 1)...)} {
		if i, data, e := opened(t, d, 1, 3).Shot(); i != 0 || data != "" || e != api.ErrNone {
			t.Error(i, data, e)
		}
	}
	c := opened(t, disk(t, head.Head{Term: 7, First: 9, Base: 3}, ""), 1, 3)
	if i, data, e := c.Shot(); i != 8 || data != "" || e != api.OK || !c.Clean() {
		t.Error(i, data, e)
	}
}

// P15.2: an older snapshot than the one that the log continues from does not replace that.
func TestOlderShot(t *testing.T) {
	w := settled(t, 3)
	c := w.cores[1]
	for _, i := range []int{4, 7} {
		if e := c.Compact(i, fmt.Sprint("up to ", i)); e != api.OK {
			t.Fatal(e)
		}
	}
	// The one up to 7 is in the second area.
	w.devs[1].Lose(2 + 66)
	w.devs[1].Lose(2 + 67)
	c = opened(t, w.devs[1].Crash(), 1, 3)
	if i, data, e := c.Shot(); i != 0 || data != "" || e != api.ErrBad || c.Clean() || c.First() != 8 || c.Commit() != 7 {
		t.Error(face(c))
	}
}

// P15.2: Scrub finds all damage.
func TestScrubFinds(t *testing.T) {
	for b, want := range map[int]bool{134 + 9: false, 134 + 10: false, 134 + 11: false, 134 + 12: true, 4: false, 5: false, 6: false, 7: true} {
		for _, lose := range []bool{true, false} {
			d := usual(t)
			c := opened(t, d, 1, 3)
			if lose {
				d.Lose(b)
			} else {
				d.Flip(b, 20, 1)
			}
			if !c.Clean() {
				t.Error(b, "it was not read")
			}
			c.Scrub()
			if c.Clean() != want || c.Err() != api.OK {
				t.Error(b, lose, c.Clean(), c.Err())
			}
		}
	}
}

// P15.2: Scrub rewrites the copies of the head and of the List, one or both, and nothing else.
func TestScrubRewrites(t *testing.T) {
	for _, lost := range [][]int{{0}, {1}, {0, 1}, {2}, {3}, {2, 3}, {0, 3}, {0, 1, 2, 3}, {}} {
		d := usual(t)
		c := opened(t, d, 1, 3)
		was := face(c)
		for _, b := range lost {
			d.Lose(b)
		}
		c.Scrub()
		if face(c) != was || c.Err() != api.OK {
			t.Error(lost, face(c))
		}
		for _, other := range [][]int{{0, 2}, {0, 3}, {1, 2}, {1, 3}} {
			x := d.Crash()
			for _, b := range other {
				x.Lose(b)
			}
			if o := opened(t, x, 1, 3); face(o) != was {
				t.Error(lost, other, face(o))
			}
		}
	}
	d := usual(t)
	c := opened(t, d, 1, 3)
	was := blocks(d)
	c.Scrub()
	if blocks(d) != was {
		t.Error("Scrub wrote without need")
	}
}

// P15.3: Propose appends entries, and refuses what the chapter says, in its order.
func TestPropose(t *testing.T) {
	w := settled(t, 3)
	c, long := w.cores[1], strings.Repeat("x", 489)
	for _, k := range []int{2, 3} {
		for _, data := range []string{"", "x", long} {
			if i, e := w.cores[k].Propose(data); i != 0 || e != api.ErrLeader {
				t.Error(k, i, e)
			}
		}
	}
	if i, e := c.Propose(long); i != 0 || e != api.ErrLong || c.Last() != 11 {
		t.Error(i, e)
	}
	for n, data := range []string{"", "x", long[:487], long[:488], "\x00\xff"} {
		i, e := c.Propose(data)
		x, state := c.Entry(i)
		if e != api.OK || i != 12+n || c.Last() != i || x != (plog.Entry{Index: i, Term: 1, Data: data}) || state != plog.Good {
			t.Error(n, i, e, x, state)
		}
	}
	for c.Room() >= Spare {
		if i, e := c.Propose("x"); e != api.OK || i != c.Last() {
			t.Fatal(i, e)
		}
	}
	if c.Room() != 39 {
		t.Error(c.Room())
	}
	for _, data := range []string{"", "x", long} {
		if i, e := c.Propose(data); i != 0 || e != api.ErrFull || c.Room() != 39 {
			t.Error(i, e)
		}
	}
	w.collect(1)
	w.round()
	if e := c.Compact(1, "one"); e != api.OK || c.Room() != 40 {
		t.Error(e, c.Room())
	}
	if i, e := c.Propose("x"); e != api.OK || c.Room() != 39 || i != c.Last() {
		t.Error(i, e)
	}
	w.devs[1].Lose(134 + 5)
	c.Scrub()
	if i, e := c.Propose("x"); i != 0 || e != api.ErrLeader {
		t.Error(i, e)
	}
}

// P15.3: what is proposed is durable before anybody hears of it.
func TestProposeWithoutPower(t *testing.T) {
	for turns := range 8 {
		w := settled(t, 3)
		c := w.cores[1]
		w.devs[1].Fall(turns)
		i, e := c.Propose("text")
		sent := c.Out()
		if e != api.OK && (i != 0 || e != api.ErrDown || len(sent) > 0) {
			t.Error(turns, i, e, sent)
		}
		c = opened(t, w.devs[1].Crash(), 1, 3)
		if x, state := c.Entry(12); e == api.OK && (x.Data != "text" || state != plog.Good) {
			t.Error(turns, x, state)
		}
		if e == api.OK {
			return
		}
	}
	t.Error("Propose never returned OK")
}

// P15.3: which indices and data Compact refuses, and what it does.
func TestCompact(t *testing.T) {
	long := strings.Repeat("x", 64*400+1)
	for _, k := range []int{1, 2} { // the leader, and another one
		w := settled(t, 3)
		c := w.cores[k]
		was, held := face(c), blocks(w.devs[k])
		for _, i := range []int{math.MinInt, -1, 0, 12, 13, 64, 65, math.MaxInt} {
			if e := c.Compact(i, "x"); e != api.ErrArg {
				t.Error(k, i, e)
			}
		}
		if e := c.Compact(3, long); e != api.ErrArg {
			t.Error(k, e)
		}
		if face(c) != was || blocks(w.devs[k]) != held {
			t.Error(k, "changed", face(c))
		}
		for n, i := range []int{1, 4, 11} {
			data := long[:[]int{400 * 64, 0, 900}[n]]
			if e := c.Compact(i, data); e != api.OK {
				t.Fatal(k, i, e)
			}
			at, s, e := c.Shot()
			if at != i || s != data || e != api.OK || c.First() != i+1 || c.Commit() != 11 || c.Last() != 11 || !c.Clean() {
				t.Error(k, i, face(c))
			}
			for _, o := range []int{i - 1, i, i + 1} {
				e := c.Compact(o, long)
				if e != api.ErrArg {
					t.Error(k, o, e)
				}
			}
			o := opened(t, w.devs[k].Crash(), k, 3)
			at, s, e = o.Shot()
			if at != i || s != data || e != api.OK || o.First() != i+1 || o.Commit() != i || o.Last() != 11 || !o.Clean() {
				t.Error(k, i, face(o))
			}
		}
		w.add(2)
	}
}

// P15.3: entries that are there but not committed are not covered, nor any whose term is not known.
func TestCompactOfUnknown(t *testing.T) {
	c := opened(t, usual(t), 1, 3)
	for i := 7; i < 14; i++ {
		if e := c.Compact(i, "x"); e != api.ErrArg {
			t.Error(i, e)
		}
	}
	d := usual(t)
	d.Lose(134 + 10)
	d.Lose(198 + 10)
	c = opened(t, d, 1, 3)
	// Another replica has a snapshot up to the last entry: so all are committed.
	c.Hear(msg.Msg{Kind: msg.ShotAsk, From: 2, To: 1, Index: 11, Commit: 11, LogTerm: 5})
	if c.Commit() != 11 {
		t.Fatal(face(c))
	}
	if e := c.Compact(10, "x"); e != api.ErrArg || c.First() != 9 {
		t.Error(e)
	}
	if e := c.Compact(11, "x"); e != api.OK || c.First() != 12 || !c.Clean() {
		t.Error(e, face(c))
	}
}

// P15.3: whenever the power fails during Compact, the old snapshot or the new one is there, with the log.
func TestCompactWithoutPower(t *testing.T) {
	for turns := 0; ; turns++ {
		for fate := dev.Lost; fate <= dev.Torn; fate++ {
			w := settled(t, 3)
			c := w.cores[1]
			if e := c.Compact(4, strings.Repeat("old", 300)); e != api.OK {
				t.Fatal(e)
			}
			w.devs[1].Fall(turns)
			text := strings.Repeat("new", 300)
			e := c.Compact(8, text)
			if e != c.Err() || e != api.OK && e != api.ErrDown {
				t.Error(turns, e)
			}
			o := opened(t, w.devs[1].Crash(fate, fate, fate, fate), 1, 3)
			i, s, x := o.Shot()
			if x != api.OK || (i != 4 || e == api.OK) && (i != 8 || s != text) || o.First() != i+1 || o.Last() != 11 || !o.Clean() {
				t.Error(turns, fate, face(o))
			}
			if e == api.OK && fate == dev.Torn {
				return
			}
		}
	}
}

// P15.3: Wish of a replica that could store a snapshot that another one needs.
func TestWish(t *testing.T) {
	w := settled(t, 3)
	for k := 1; k <= 3; k++ {
		if i := w.cores[k].Wish(); i != 0 {
			t.Error(k, i)
		}
	}
	if e := w.cores[2].Compact(6, w.shot(6)); e != api.OK {
		t.Fatal(e)
	}
	w.devs[2].Lose(2)
	w.devs[2].Lose(3)
	w.crash(2)
	if w.cores[2].Clean() || w.cores[2].First() != 7 {
		t.Fatal(w.show())
	}
	wished := false
	for range 10 {
		for k := 1; k <= 3; k++ {
			w.tick(k)
			w.collect(k)
		}
		w.drain()
		for _, k := range []int{1, 3} {
			switch w.cores[k].Wish() {
			case 0:
			case 6:
				wished = true
			default:
				t.Error(k, w.cores[k].Wish())
			}
		}
	}
	if !wished || w.cores[2].Clean() || w.cores[2].Wish() != 0 {
		t.Error(w.show())
	}
	// A later one will do.
	for _, k := range []int{1, 3} {
		if e := w.cores[k].Compact(9, w.shot(9)); e != api.OK || w.cores[k].Wish() != 0 {
			t.Error(k, e, w.cores[k].Wish())
		}
	}
	w.until(20, "level", w.level)
	if i, data, e := w.cores[2].Shot(); i != 9 || data != w.shot(9) || e != api.OK || w.cores[2].First() != 10 {
		t.Error(i, data, e)
	}
}

// P15.3: a snapshot is not wished before what it covers is committed, as far as is known.
func TestWishOfCommitted(t *testing.T) {
	c := opened(t, disk(t, head.Head{Term: 7, First: 1}, "", entries(1, 1, 1, 1, 2, 2, 2)...), 1, 3)
	want := func(commit, wish int) {
		t.Helper()
		if c.Commit() != commit || c.Wish() != wish {
			t.Errorf("commit %d, wish %d; want %d, %d", c.Commit(), c.Wish(), commit, wish)
		}
	}
	c.Hear(msg.Msg{Kind: msg.ShotAsk, From: 2, To: 1, Index: 4, Commit: 3, LogTerm: 1})
	want(3, 0)
	c.Hear(msg.Msg{Kind: msg.ShotAsk, From: 2, To: 1, Index: 4, Commit: 5, LogTerm: 9})
	want(3, 0)
	c.Hear(msg.Msg{Kind: msg.ShotAsk, From: 3, To: 1, Index: 3, Commit: 5, LogTerm: 2})
	want(5, 4)
	if e := c.Compact(4, "x"); e != api.OK {
		t.Error(e)
	}
	want(5, 0)
}

// Rules 1 and 3: messages that no replica sends do not end in a panic, nor count as an error of the device.
func TestGarbage(t *testing.T) {
	for seed := range int64(300) {
		w := settled(t, []int{3, 5, 7}[seed%3])
		c := w.cores[1+seed%3]
		for range 300 {
			m := w.garbage(c)
			c.Hear(m)
			if c.Err() != api.OK || c.Commit() > c.Last() || c.Commit() < c.First()-1 {
				t.Fatalf("seed %d: after %v: %s", seed, m, face(c))
			}
			switch w.r.Intn(8) {
			case 0:
				c.Tick()
			case 1:
				c.Scrub()
			case 2:
				c.Propose("x")
			case 3:
				c.Compact(c.Commit(), "x")
			}
			for _, m := range c.Out() {
				if !m.Right() {
					t.Fatalf("seed %d: sent %v", seed, m)
				}
			}
			if w.r.Intn(50) == 0 {
				d := c.device
				for range 3 {
					d.Lose(134 + w.r.Intn(128))
				}
				c = opened(t, d.Crash(), c.me, c.n)
			}
		}
	}
}

// garbage returns a random valid message to a replica.
func (w *world) garbage(c *Core) msg.Msg {
	num := func(near int) int {
		switch w.r.Intn(12) {
		case 0:
			return 0
		case 1:
			return []int{api.MaxTime - 1, api.MaxTime, api.MaxTime + 1, 1<<48 - 1}[w.r.Intn(4)]
		}
		return max(0, near+w.r.Intn(5)-2)
	}
	term := func() int {
		if w.r.Intn(3) > 0 {
			return c.Term()
		}
		return num(c.Term())
	}
	i := c.First() + w.r.Intn(c.Last()-c.First()+3)
	m := msg.Msg{
		Kind: msg.Kind(1 + w.r.Intn(8)), From: 1 + w.r.Intn(c.n), To: c.me, Term: term(), Index: num(i),
		LogTerm: num(c.termAt(i)), Last: num(c.Last()), Commit: num(c.Last()), Ok: w.r.Intn(3) > 0,
		State: plog.State(w.r.Intn(4)), Part: num(1),
	}
	for k := range w.r.Intn(5) {
		x := plog.Entry{Index: m.Index + 1 + k, Term: num(c.Term()), Data: "garbage"}
		if w.r.Intn(4) == 0 {
			x.Index = num(i)
		}
		x.Index = min(x.Index, 1<<48-1)
		m.Entries = append(m.Entries, x)
	}
	if w.r.Intn(2) == 0 {
		l, _ := c.shots.List()
		m.List = l
		if w.r.Intn(2) == 0 {
			text := strings.Repeat("t", w.r.Intn(900))
			m.Data = text[:min(len(text), 400)]
			m.List.Index, m.List.Term, m.List.Bytes = num(i), num(c.Term()), len(text)
			m.List.Sums = slices.Clone(chunkSums(text))
		}
		if w.r.Intn(8) == 0 {
			m.List.Bytes = num(900)
		}
	}
	if w.r.Intn(20) > 0 {
		m.Term = min(m.Term, c.Term()+3)
	}
	return m
}

// chunkSums returns the checksums of the chunks of a text.
func chunkSums(text string) []sum.Sum {
	return chunk.Of(1, 1, text).Sums
}
