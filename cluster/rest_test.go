package cluster

import (
	"math"
	"testing"

	"orchard/api"
	"orchard/core"
	"orchard/dev"
	"orchard/msg"
	"orchard/op"
	"orchard/state"
)

// spare is a block that replicas with a short snapshot, or none, do not use.
const spare = 60

// P19.2: Crash of a replica that is not there.
func TestCrashOfNobody(t *testing.T) {
	w := newTwin(t, 3, 1)
	w.rest(60)
	for _, k := range append([]int{4, 5}, odd...) {
		for _, fates := range [][]dev.Fate{nil, {dev.Kept}, {dev.Torn, dev.Lost, 7}} {
			if e := w.c.Crash(k, fates...); e != api.ErrArg {
				t.Error(k, fates, e)
			}
		}
	}
	w.equal()
}

// P19.2: the fates of Crash are those of what is not durable.
func TestCrashFates(t *testing.T) {
	for _, x := range []struct {
		fates []dev.Fate
		text  string
	}{
		{nil, "old"}, {[]dev.Fate{dev.Lost}, "old"}, {[]dev.Fate{dev.Kept}, "newest"}, {[]dev.Fate{dev.Torn}, "new"},
		{[]dev.Fate{9}, "old"}, {[]dev.Fate{dev.Lost, dev.Kept}, "last"}, {[]dev.Fate{dev.Kept, dev.Lost}, "newest"},
		{[]dev.Fate{dev.Kept, dev.Torn, dev.Kept}, "la"},
	} {
		for k := 1; k <= 3; k++ {
			w := newTwin(t, 3, 0)
			w.rest(60)
			for o := 1; o <= 3; o++ {
				w.device(o, func(d *dev.Device) {
					d.Write(spare, "old")
					d.Flush()
					d.Write(spare, "newest")
					d.Write(spare, "last")
				})
			}
			was := map[any]bool{}
			for o := 1; o <= 3; o++ {
				was[w.c.Replica(o)], was[w.c.Device(o)] = true, true
			}
			w.crash(k, x.fates...)
			for o := 1; o <= 3; o++ {
				want := "last"
				if o == k {
					want = x.text
				}
				if text, e := w.c.Device(o).Read(spare); text != want || e != api.OK {
					t.Error(k, o, x.fates, text, e)
				}
				if was[w.c.Replica(o)] == (o == k) || was[w.c.Device(o)] == (o == k) {
					t.Error(k, o, "which replica is opened")
				}
			}
			w.equal()
		}
	}
}

// P19.2: a replica that was crashed is opened on its new device: it knows what is durable, and no leader; what it
// writes then is there.
func TestCrashOpens(t *testing.T) {
	c := rested(t, 3, 1)
	asks(t, c, 1, open())
	c.Rest(10)
	for k := 1; k <= 3; k++ {
		old := c.Replica(k)
		if e := c.Crash(k); e != api.OK {
			t.Error(e)
		}
		r := c.Replica(k)
		if r == old || r.Role() != core.Follower || r.Lead() != 0 || r.Commit() != 0 || r.Term() != old.Term() || r.Last() != old.Last() {
			t.Error(k, r.Role(), r.Lead(), r.Commit(), r.Term(), r.Last())
		}
		before := c.Device(k).Clone()
		c.Rest(60)
		if c.Leader() == 0 || !c.Level() || c.Replica(k) != r || sameBlocks(before, c.Device(k)) != (r.Last() == old.Last()) {
			t.Error(k, "does not go on")
		}
	}
}

// P19.2: Crash of a replica whose device is about to lose its power, and of one without.
func TestCrashAndFall(t *testing.T) {
	for _, turns := range []int{0, 1, 2, 3, 4, 5, 10} {
		for _, fates := range [][]dev.Fate{nil, {dev.Kept, dev.Kept, dev.Kept}, {dev.Torn, dev.Torn}} {
			w := newTwin(t, 3, 0)
			w.rest(60)
			w.device(2, func(d *dev.Device) { d.Fall(turns) })
			w.crash(2, fates...)
			for i := range 2 * turns {
				if e := w.c.Device(2).Write(spare, "x"); e != api.OK || w.c.Device(2).Down() {
					t.Error(turns, i, e)
				}
			}
			w.c.Device(2).Flush()
			if w.c.Replica(2).Err() != api.OK {
				t.Error(turns)
			}
			// Now it loses its power while it does something.
			w = newTwin(t, 3, 0)
			w.device(2, func(d *dev.Device) { d.Fall(turns) })
			for range 40 {
				w.round()
			}
			if w.c.Replica(2).Err() != api.ErrDown {
				t.Error(turns, "has power")
			}
			w.crash(2, fates...)
			if w.c.Replica(2).Err() != api.OK || w.c.Device(2).Down() {
				t.Error(turns, fates)
			}
			w.equal()
			w.rest(60)
			w.equal()
		}
	}
}

// P19.2: what is in transit stays there when replicas are crashed.
func TestCrashAndTransit(t *testing.T) {
	w := candidate(t, 5, 0)
	for k := 1; k <= 5; k++ {
		w.crash(k)
	}
	if w.c.Len() != 4 || w.c.Now() != 0 {
		t.Error(w.c.Len())
	}
	w.deliver(4, 0)
	for k := 2; k <= 5; k++ {
		if w.c.Replica(k).Term() != 1 {
			t.Error(k)
		}
	}
	w.drained()
}

// P19.3: a Round: the time, the Ticks, and then what is due.
func TestRound(t *testing.T) {
	for _, n := range []int{3, 5, 7} {
		w := newTwin(t, n, 0)
		for i := range 60 {
			w.round()
			if w.c.Now() != i+1 || w.c.Len() != 0 {
				t.Error(i, w.c.Now(), w.c.Len())
			}
			w.equal()
		}
		if w.c.Leader() == 0 {
			t.Error("nobody leads")
		}
	}
}

// P19.3: what is due at the new time is heard, what is due later is not.
func TestRoundHears(t *testing.T) {
	c := rested(t, 3, 0)
	ask := func(from int) msg.Msg {
		return msg.Msg{Kind: msg.VoteAsk, From: from, To: 1 + from%3, Term: 100 + from, Index: 1000, LogTerm: 1000}
	}
	c.Send(1, ask(1))
	c.Send(2, ask(2))
	c.Round()
	if c.Replica(2).Term() != 101 || c.Replica(3).Term() > 101 {
		t.Error(c.Replica(2).Term(), c.Replica(3).Term())
	}
	c.Round()
	if c.Replica(3).Term() != 102 {
		t.Error(c.Replica(3).Term())
	}
}

// eager returns a cluster each of whose replicas asks for votes with its next Tick, in the term after the given one.
func eager(t *testing.T, terms ...int) *twin {
	t.Helper()
	w := newTwin(t, len(terms), 0)
	for i, term := range terms {
		k := i + 1
		m := msg.Msg{Kind: msg.VoteAsk, From: 1 + k%len(terms), To: k, Term: term}
		w.c.Send(0, m)
		w.p.way = append(w.p.way, letter{0, m})
		w.deliver(1, 0)
		w.clear()
		lone, _ := New(len(terms), 0)
		lone.Send(0, m)
		lone.Deliver(1, 0)
		lone.Clear()
		for lone.Tick(k, 0); lone.Len() == 0; lone.Tick(k, 0) {
			w.tick(k, 0)
		}
	}
	if w.c.Len() != 0 {
		t.Fatal(w.c.Len())
	}
	return w
}

// P19.3: all replicas are ticked ahead of what is heard: so none of them has heard of another one's term.
func TestRoundTicks(t *testing.T) {
	w := eager(t, 5, 5, 5)
	w.c.Round()
	for k := 1; k <= 3; k++ {
		if w.c.Replica(k).Role() != core.Candidate || w.c.Replica(k).Term() != 6 {
			t.Error(k, w.c.Replica(k).Role(), w.c.Replica(k).Term())
		}
	}
}

// P19.3: they are ticked in order. (As there is not room for all that they send, the order shows in what is heard.)
func TestRoundOrder(t *testing.T) {
	for _, terms := range [][]int{{1, 2, 3}, {3, 2, 1}, {2, 3, 1}, {2, 1, 3}, {1, 2, 3, 4, 5}, {9, 7, 8, 1, 2}} {
		for room := range 7 {
			w := eager(t, terms...)
			for range 2000 - room {
				w.c.Send(50, msg.Msg{})
				w.p.way = append(w.p.way, letter{50, msg.Msg{}})
			}
			w.round()
			if len(terms) == 3 && room > 0 && w.c.Replica(2).Term() < terms[0]+1 {
				t.Error(terms, room)
			}
			w.equal()
		}
	}
}

// P19.3: up to 4000 messages are heard. (Each of these makes the leader feed a replica, which then confirms that.)
func TestRoundMost(t *testing.T) {
	c := rested(t, 3, 1)
	asks(t, c, 1, open())
	for range 12 {
		asks(t, c, 1, set("x"))
	}
	lead, r := c.Leader(), c.Replica(c.Leader())
	c.Rest(3)
	give := msg.Msg{Kind: msg.FeedGive, From: 1 + lead%3, To: lead, Term: r.Term()}
	for i := range 1000 {
		give.Ok, give.Index = false, 0
		c.Send(i%2, give)
		give.Ok, give.Index = true, r.Last()-1
		c.Send(i%2, give)
	}
	if c.Len() != 2000 || r.Last() < 10 {
		t.Fatal(c.Len(), r.Last())
	}
	c.Round()
	if c.Len() != 2000 {
		t.Error(c.Len())
	}
	if heard := c.Deliver(math.MaxInt, 0); heard != 2000 || c.Len() != 0 {
		t.Error(heard)
	}
}

// P19.3: no rounds.
func TestRestOfNoRounds(t *testing.T) {
	for _, rounds := range []int{math.MinInt, -1, 0} {
		w := newTwin(t, 3, 1)
		w.rest(60)
		now := w.c.Now()
		w.call(1, open())
		w.tick(w.c.Leader(), 0)
		way := w.c.Len()
		w.rest(rounds)
		if w.c.Now() != now || w.c.Len() != way || way == 0 || !w.c.Client(1).Busy() {
			t.Error(rounds, w.c.Now(), w.c.Len())
		}
		w.equal()
	}
}

// P19.3: how many Rounds follow, and what the clients do after each.
func TestRestRounds(t *testing.T) {
	for _, rounds := range []int{1, 2, 3, 30, 60, 100} {
		w := newTwin(t, 3, 3)
		w.call(1, open())
		w.call(3, op.Cmd{Kind: op.Sync})
		w.rest(rounds)
		if w.c.Now() != rounds {
			t.Error(rounds, w.c.Now())
		}
		if answered := !w.c.Client(1).Busy() && !w.c.Client(3).Busy(); answered != (w.c.Leader() != 0) {
			t.Error(rounds, answered, w.c.Leader())
		}
		w.equal()
		w.rest(rounds)
		if w.c.Now() != 2*rounds {
			t.Error(rounds, w.c.Now())
		}
		w.equal()
	}
}

// led returns a cluster of five, with a client whose session is open, that is led by replica k.
func led(t *testing.T, k int) *Cluster {
	t.Helper()
	c, _ := New(5, 1)
	for c.Leader() != k {
		c.Tick(k, 0)
		c.Deliver(math.MaxInt, 0)
	}
	asks(t, c, 1, open())
	c.Rest(10)
	if c.Leader() != k || !c.Level() {
		t.Fatal(c.Leader())
	}
	return c
}

// P19.3: a client tries all replicas after the Round.
func TestRestTries(t *testing.T) {
	for lead := 1; lead <= 5; lead++ {
		c := led(t, lead)
		c.Call(1, set("x"))
		c.Rest(1)
		// It is proposed, and fed, but nobody has heard of that.
		for k := 1; k <= 5; k++ {
			if has := c.Replica(k).Last() > c.Replica(k).Commit(); has != (k == lead) {
				t.Error(lead, k, has)
			}
		}
		if c.Len() != 4 || !c.Client(1).Busy() {
			t.Error(lead, c.Len(), c.Client(1).Busy())
		}
		c.Rest(1)
		if c.Client(1).Busy() || c.Client(1).Seen() != c.Replica(lead).Commit() || c.Len() != 0 {
			t.Error(lead, c.Client(1).Busy(), c.Client(1).Seen(), c.Len())
		}
	}
}

// P19.3: it tries them in order, until it has its answer. (Those ahead of the leader do not know of an update that is
// not executed yet; the first one of those that do is the one that answers.)
func TestRestOrder(t *testing.T) {
	for first := 1; first <= 5; first++ {
		c := led(t, 3)
		c.Call(1, set("x"))
		c.Try(1, 3)
		for c.Deliver(1, 0) > 0 {
		}
		for c.Replica(1).State().At() < c.Replica(3).State().At() {
			c.Tick(3, 0)
			c.Deliver(math.MaxInt, 0)
		}
		// What the replicas ahead of that one know is made less; those behind it are made to know more.
		at := c.Replica(3).State().At()
		for k := 1; k <= 5; k++ {
			s := c.Replica(k).State()
			if k < first {
				*s = *replicaState(c, at-1)
			}
			for range k - first {
				s.Apply("")
			}
		}
		c.tryAll()
		if c.Client(1).Busy() || c.Client(1).Seen() != at {
			t.Error(first, c.Client(1).Busy(), c.Client(1).Seen(), at)
		}
	}
}

// replicaState returns the state of an index, from the leader's log.
func replicaState(c *Cluster, at int) *state.State {
	s := state.New()
	for s.At() < at {
		x, _ := c.Replica(c.Leader()).Entry(s.At() + 1)
		s.Apply(x.Data)
	}
	return s
}

// P19.3: no messages are lost any more.
func TestRestLossless(t *testing.T) {
	for _, n := range []int{1, 2, 3} {
		w := newTwin(t, 3, 1)
		w.lossy(n)
		for range 100 {
			w.round()
		}
		w.call(1, open())
		w.rest(60)
		if w.c.Leader() == 0 || !w.c.Level() || w.c.Client(1).Busy() {
			t.Error(n, w.c.Leader(), w.c.Level())
		}
		// Nor later.
		for range 20 {
			w.round()
			if w.c.Leader() == 0 {
				t.Error(n)
			}
		}
		w.equal()
	}
}

// some calls a function with each choice of some of n replicas.
func some(n int, f func(is func(k int) bool)) {
	for bits := range 1 << n {
		f(func(k int) bool { return bits&(1<<(k-1)) != 0 })
	}
}

// P19.3: replicas without power are crashed, without fates; the others are not, and no power fails any more.
func TestRestPower(t *testing.T) {
	some(3, func(down func(int) bool) {
		for _, noticed := range []bool{true, false} {
			w := newTwin(t, 3, 1)
			w.rest(60)
			was := map[any]bool{w.c.Replica(1): true, w.c.Replica(2): true, w.c.Replica(3): true}
			for k := 1; k <= 3; k++ {
				w.device(k, func(d *dev.Device) {
					d.Write(spare, "x")
					if !down(k) {
						d.Fall(k)
						return
					}
					d.Fall(0)
					if !noticed {
						d.Flush()
					}
				})
				if down(k) && noticed {
					m := msg.Msg{Kind: msg.VoteAsk, From: 1 + k%3, To: k, Term: 99}
					w.c.Replica(k).Hear(m)
					w.p.reps[k].Hear(m)
					if w.c.Replica(k).Err() != api.ErrDown {
						t.Fatal("not noticed")
					}
				}
			}
			w.equal()
			w.rest(0)
			for k := 1; k <= 3; k++ {
				text, e := w.c.Device(k).Read(spare)
				if same := was[w.c.Replica(k)]; same == down(k) || (text == "x") != same || e != api.OK {
					t.Error(k, noticed, down(k), same, text, e)
				}
				if w.c.Replica(k).Err() != api.OK || w.c.Device(k).Down() {
					t.Error(k, noticed, down(k), "no power")
				}
			}
			w.equal()
			w.rest(60)
			if w.c.Leader() == 0 || !w.c.Level() {
				t.Error(noticed, "not well")
			}
			w.equal()
		}
	})
}

// P19.3: pending power failures are cancelled, also those that are far away; a later one is not.
func TestRestCancels(t *testing.T) {
	for _, turns := range []int{math.MinInt, -1, 0, 1, 2, 5, 1000} {
		c, _ := New(3, 0)
		for k := 1; k <= 3; k++ {
			c.Device(k).Fall(turns)
		}
		c.Rest(0)
		for k := 1; k <= 3; k++ {
			for i := range 2000 {
				if e := c.Device(k).Write(spare, "x"); e != api.OK {
					t.Fatal(turns, k, i, e)
				}
			}
			c.Device(k).Flush()
			c.Device(k).Fall(turns)
			for range max(turns, 0) {
				c.Device(k).Flush()
			}
			if e := c.Device(k).Flush(); e != api.ErrDown {
				t.Error(turns, k, e)
			}
		}
	}
}

// P19.3: each replica is scrubbed, so that it knows what is damaged, and puts its head again.
func TestRestScrubs(t *testing.T) {
	some(3, func(hit func(int) bool) {
		w := newTwin(t, 3, 1)
		w.rest(60)
		for k := 1; k <= 3; k++ {
			if hit(k) {
				w.device(k, func(d *dev.Device) {
					d.Lose(core.Blocks - 2*core.LogSize + w.c.Replica(k).Last())
					d.Flip(1, 7, 7)
				})
			}
		}
		if !w.c.Level() {
			t.Error("read")
		}
		good, _ := w.c.Device(1).Read(0)
		was := w.c.Now()
		w.rest(0)
		for k := 1; k <= 3; k++ {
			text, e := w.c.Device(k).Read(1)
			if w.c.Replica(k).Clean() == hit(k) || len(text) != len(good) || e != api.OK || w.c.Now() != was {
				t.Error(k, w.c.Replica(k).Clean())
			}
			if first, _ := w.c.Device(k).Read(0); first != text {
				t.Error(k, "the head's copies differ")
			}
		}
		w.equal()
		w.rest(60)
		w.equal()
		if all := hit(1) && hit(2) && hit(3); w.c.Level() == all || (w.c.Leader() == 0) != all {
			t.Error(all, w.c.Level(), w.c.Leader())
		}
	})
}

// P19.3: a replica without power whose head is damaged is crashed, and Lost then.
func TestRestLost(t *testing.T) {
	w := newTwin(t, 3, 1)
	w.rest(60)
	w.device(2, func(d *dev.Device) {
		d.Lose(0)
		d.Lose(1)
		d.Fall(0)
		d.Flush()
	})
	w.call(1, open())
	w.rest(60)
	if w.c.Replica(2).Role() != core.Lost || w.c.Level() || w.c.Client(1).Busy() {
		t.Error(w.c.Replica(2).Role(), w.c.Level(), w.c.Client(1).Busy())
	}
	w.equal()
	// It stays as it is, with its device, as long as that has power.
	r := w.c.Replica(2)
	w.rest(3)
	if w.c.Replica(2) != r {
		t.Error("opened")
	}
	w.equal()
}
