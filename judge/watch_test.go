package judge

import (
	"fmt"
	"testing"

	"orchard/api"
	"orchard/cluster"
	"orchard/core"
	"orchard/op"
	"orchard/plog"
	"orchard/state"
)

// busy returns a cluster that has committed some commands, and the history of these.
func busy(t *testing.T, updates int) (*cluster.Cluster, *history) {
	t.Helper()
	c, e := cluster.New(3, 2)
	if e != api.OK {
		t.Fatal(e)
	}
	c.Rest(40)
	c.Call(1, op.Cmd{Kind: op.Open})
	c.Rest(10)
	h := newHistory(t)
	for i := range updates {
		c.Call(1, set(0, "/", fmt.Sprint(i)))
		c.Rest(3)
		h.extend(c)
	}
	h.extend(c)
	if c.Leader() == 0 || !c.Level() || c.Client(1).Busy() || len(h.texts) < updates+2 {
		t.Fatal(c.Leader(), c.Level(), len(h.texts))
	}
	return c, h
}

// extend adds what a cluster that is well has committed.
func (h *history) extend(c *cluster.Cluster) {
	r := c.Replica(c.Leader())
	for i := len(h.texts) + 1; i <= r.Commit(); i++ {
		x, _ := r.Entry(i)
		cmd, _ := op.Read(x.Data)
		h.put(cmd, x.Data)
	}
}

// place returns the block of an entry.
func place(i int) int { return core.Blocks - 2*core.LogSize + i%core.LogSize }

// fallen lets a replica find that it has no power.
func fallen(t *testing.T, c *cluster.Cluster, k int) {
	t.Helper()
	c.Device(k).Fall(0)
	c.Device(k).Flush()
	c.Replica(k).Entry(c.Replica(k).Last())
	if c.Replica(k).Err() != api.ErrDown {
		t.Fatal("no error")
	}
}

// records fails unless a judge knows just these entries of a history, besides those up to Known.
func records(t *testing.T, j *Judge, h *history, is func(i int) bool) {
	t.Helper()
	for i := 1; i <= len(h.texts)+2; i++ {
		x, recorded := j.log[i]
		if recorded != is(i) || recorded && x.text != h.texts[i-1] {
			t.Fatal("entry", i, recorded, "not", is(i))
		}
	}
}

// P20.1: Watch of a cluster that is well, with and without earlier knowledge.
func TestWatch(t *testing.T) {
	c, h := busy(t, 10)
	last := len(h.texts)
	j := New()
	for range 3 {
		say(t, j, j.Watch(c), true)
		is(t, j, last, 0, false)
	}
	records(t, j, h, func(i int) bool { return i <= last })
	for known := range last + 1 {
		j := h.judge(t, known)
		say(t, j, j.Watch(c), true)
		is(t, j, last, 0, false)
	}
	j = New()
	n, _ := cluster.New(7, 0)
	say(t, j, j.Watch(n), true)
	is(t, j, 0, 0, false)
}

// P20.1: a wrong text of an entry is found, wherever it is; what comes before it is recorded.
func TestWatchText(t *testing.T) {
	c, h := busy(t, 5)
	for i := 1; i <= len(h.texts); i++ {
		j := New()
		j.Commit(i, h.texts[i-1]+"x")
		say(t, j, j.Watch(c), false, i)
		if j.Known() != i {
			t.Error(i, j.Known())
		}
		delete(j.log, i)
		records(t, j, h, func(o int) bool { return o < i })
		j.log[i] = entry{h.texts[i-1]}
		say(t, j, j.Commit(i, h.texts[i-1]), true)
		is(t, j, i, 0, true)
	}
}

// P20.1: entries above a replica's Commit are not recorded.
func TestWatchCommit(t *testing.T) {
	c, h := busy(t, 5)
	last := len(h.texts)
	c.Call(1, set(0, "/", "x"))
	c.Try(1, c.Leader())
	r := c.Replica(c.Leader())
	if r.Last() != last+1 || r.Commit() != last {
		t.Fatal(r.Last(), r.Commit())
	}
	j := New()
	say(t, j, j.Watch(c), true)
	is(t, j, last, 0, false)
	records(t, j, h, func(i int) bool { return i <= last })
	j.Commit(last+1, "another")
	say(t, j, j.Watch(c), true)
	// Now one knows more than the others.
	for r.Commit() == last {
		c.Deliver(1, 0)
	}
	j = New()
	say(t, j, j.Watch(c), true)
	is(t, j, last+1, 0, false)
}

// P20.1: each replica is looked at.
func TestWatchEach(t *testing.T) {
	for k := 1; k <= 3; k++ {
		c, h := busy(t, 5)
		for o := 1; o <= 3; o++ {
			if o != k {
				c.Crash(o)
			}
		}
		j := New()
		say(t, j, j.Watch(c), true)
		is(t, j, len(h.texts), 0, false)
		c.Crash(k)
		j = New()
		say(t, j, j.Watch(c), true)
		is(t, j, 0, 0, false)
	}
}

// P20.1: a replica with an error is not looked at, neither its entries nor its State.
func TestWatchError(t *testing.T) {
	for k := 1; k <= 3; k++ {
		c, h := busy(t, 5)
		c.Replica(k).State().Set("/", "tampered", -1, 1)
		for o := 1; o <= 3; o++ {
			if o != k {
				c.Crash(o)
			}
		}
		fallen(t, c, k)
		if r := c.Replica(k); r.Commit() != len(h.texts) || r.State() == nil {
			t.Fatal("the replica has forgotten")
		}
		j := New()
		say(t, j, j.Watch(c), true)
		is(t, j, 0, 0, false)
		j = h.judge(t, len(h.texts))
		say(t, j, j.Watch(c), true)
	}
}

// P20.1: a replica that has no power, but has not found that yet: no entry reads as Good; its State is compared.
func TestWatchWithoutPower(t *testing.T) {
	for k := 1; k <= 3; k++ {
		c, h := busy(t, 5)
		for o := 1; o <= 3; o++ {
			if o != k {
				c.Crash(o)
			}
		}
		c.Device(k).Fall(0)
		c.Device(k).Flush()
		if c.Replica(k).Err() != api.OK {
			t.Fatal("found")
		}
		j := New()
		say(t, j, j.Watch(c), true)
		is(t, j, 0, 0, false)
		records(t, j, h, func(int) bool { return false })
		if c.Replica(k).Err() != api.ErrDown {
			t.Error("not found")
		}
	}
	for k := 1; k <= 3; k++ {
		c, h := busy(t, 5)
		c.Device(k).Fall(0)
		c.Device(k).Flush()
		c.Replica(k).State().Set("/", "tampered", -1, 1)
		j := h.judge(t, len(h.texts))
		say(t, j, j.Watch(c), false)
	}
}

// P20.1: a Lost replica is not looked at.
func TestWatchLost(t *testing.T) {
	for k := 1; k <= 3; k++ {
		c, h := busy(t, 5)
		c.Device(k).Lose(0)
		c.Device(k).Lose(1)
		c.Crash(k)
		if c.Replica(k).Role() != core.Lost {
			t.Fatal("not lost")
		}
		for _, j := range []*Judge{New(), h.judge(t, 3), h.judge(t, len(h.texts))} {
			say(t, j, j.Watch(c), true)
			is(t, j, len(h.texts), 0, false)
		}
	}
}

// P20.1: damaged entries are not recorded.
func TestWatchDamaged(t *testing.T) {
	for hurt := 1; hurt <= 6; hurt++ {
		c, h := busy(t, 6)
		for o := 1; o <= 3; o++ {
			if o != c.Leader() {
				c.Crash(o)
			}
		}
		k := 1
		for c.Replica(k).Commit() == 0 {
			k++
		}
		last := len(h.texts)
		c.Device(k).Lose(place(hurt))
		c.Device(k).Flip(place(last), 30, 1)
		j := New()
		say(t, j, j.Watch(c), true)
		is(t, j, hurt-1, 0, false)
		records(t, j, h, func(i int) bool { return i != hurt && i < last })
		if c.Replica(k).Clean() {
			t.Error("not read")
		}
		j.Commit(hurt, h.texts[hurt-1])
		is(t, j, last-1, 0, false)
		say(t, j, j.Watch(c), true)
	}
}

// P20.1: entries that a snapshot covers are not recorded, and a State that is not known to the judge is not compared.
func TestWatchSnapshot(t *testing.T) {
	c, h := busy(t, 8)
	last := len(h.texts)
	for k := 1; k <= 3; k++ {
		if e := c.Replica(k).Compact(k+2, h.states[k+2].Bytes()); e != api.OK {
			t.Fatal(e)
		}
	}
	j := New()
	say(t, j, j.Watch(c), true)
	is(t, j, 0, 0, false)
	records(t, j, h, func(i int) bool { return i > 3 && i <= last })
	j.Commit(1, h.texts[0])
	j.Commit(2, h.texts[1])
	is(t, j, 2, 0, false)
	say(t, j, j.Watch(c), true)
	j.Commit(3, h.texts[2])
	is(t, j, last, 0, false)
	say(t, j, j.Watch(c), true)
	// A judge that was told something else of them finds the States wrong.
	for i := 2; i <= 3; i++ {
		j := New()
		for o := 1; o <= 3; o++ {
			text := h.texts[o-1]
			if o == i {
				text, _ = open(15).Bytes()
			}
			j.Commit(o, text)
		}
		say(t, j, j.Watch(c), false, i)
		// It knows of the entries of the first replica.
		is(t, j, last, 0, true)
	}
}

// P20.1: a State that differs, of any replica; the replicas after it are not looked at.
func TestWatchState(t *testing.T) {
	for i, change := range []func(s *state.State){
		func(s *state.State) { s.Set("/", "tampered", -1, 1) },
		func(s *state.State) { s.Create("/tampered", "", 0, 1, false) },
		func(s *state.State) { text, _ := open(9).Bytes(); *s = *state.New(); s.Apply(text) },
		func(s *state.State) { s.Apply("") },
		func(s *state.State) { *s = *state.New() },
	} {
		for k := 1; k <= 3; k++ {
			c, h := busy(t, 5)
			last := len(h.texts)
			j := New()
			say(t, j, j.Watch(c), true)
			s := c.Replica(k).State()
			was := s.Clone()
			change(s)
			want := i >= 3 // it is ahead of what is known, or it is that of 0
			say(t, j, j.Watch(c), want, i, k)
			*s = *was
			say(t, j, j.Watch(c), true)
			is(t, j, last, 0, !want)
			change(s)
			// The replica is the first one that knows of anything.
			j = New()
			for o := 1; o < k; o++ {
				c.Crash(o)
			}
			say(t, j, j.Watch(c), want, i, k)
			is(t, j, last, 0, !want)
			// So it is when nothing else is known but by those after it.
			c.Crash(k)
			s = c.Replica(k).State()
			s.Set("/", "tampered", -1, 1)
			j = New()
			say(t, j, j.Watch(c), false, i, k)
			is(t, j, 0, 0, true)
		}
	}
}

// P20.1: a State with the same tree, but other sessions, or other watches.
func TestWatchWholeState(t *testing.T) {
	c, h := busy(t, 3)
	j := New()
	say(t, j, j.Watch(c), true)
	for i := range h.texts {
		other := state.New()
		for o, text := range h.texts {
			if o == i {
				text, _ = open(15).Bytes()
			}
			other.Apply(text)
		}
		*c.Replica(2).State() = *other
		say(t, j, j.Watch(c), false, i)
	}
}

// P20.1: a replica whose State is not known, since its snapshot is damaged.
func TestWatchUnknownState(t *testing.T) {
	for k := 1; k <= 3; k++ {
		c, h := busy(t, 5)
		last := len(h.texts)
		j := New()
		say(t, j, j.Watch(c), true)
		if e := c.Replica(k).Compact(4, h.states[4].Bytes()); e != api.OK {
			t.Fatal(e)
		}
		c.Device(k).Lose(4)
		c.Crash(k)
		if c.Replica(k).State() != nil || c.Replica(k).Clean() {
			t.Fatal("the State is known")
		}
		for _, j := range []*Judge{j, New(), h.judge(t, 2)} {
			say(t, j, j.Watch(c), true)
			is(t, j, last, 0, false)
		}
		c.Rest(30)
		say(t, j, j.Watch(c), c.Level())
	}
}

// P20.1: what counts is what reads as Good at that time.
func TestWatchReads(t *testing.T) {
	c, _ := busy(t, 3)
	for k := 1; k <= 3; k++ {
		c.Device(k).Lose(place(2))
	}
	j := New()
	say(t, j, j.Watch(c), true)
	is(t, j, 1, 0, false)
	for k := 1; k <= 3; k++ {
		if _, is := c.Replica(k).Entry(2); is == plog.Good {
			t.Error(k)
		}
	}
}
