package cluster

import (
	"math"
	"slices"
	"testing"

	"orchard/api"
	"orchard/core"
	"orchard/dev"
	"orchard/msg"
)

// taken removes all that is due, and returns it.
func taken(c *Cluster) (list []msg.Msg) {
	for m, is := c.Next(); is; m, is = c.Next() {
		list = append(list, m)
	}
	return list
}

// due returns how long it takes until there is something due, and how many messages are then.
func due(t *testing.T, c *Cluster) (int, int) {
	t.Helper()
	for i := range 1<<20 + 2 {
		if list := taken(c); len(list) > 0 {
			return i, len(list)
		}
		c.Pass()
	}
	t.Fatal("nothing is due")
	return 0, 0
}

// delays are what is asked for, and what that is.
var delays = [][2]int{
	{math.MinInt, 0}, {-5, 0}, {-1, 0}, {0, 0}, {1, 1}, {2, 2}, {7, 7}, {1<<20 - 1, 1<<20 - 1}, {1 << 20, 1 << 20},
	{1<<20 + 1, 1 << 20}, {math.MaxInt, 1 << 20},
}

// P19.2: Tick of a replica, and when what it sends is due.
func TestTick(t *testing.T) {
	for _, x := range delays {
		for _, late := range []int{0, 3} {
			c, _ := New(3, 0)
			for range late {
				c.Pass()
			}
			for i := 0; c.Len() == 0 && i < 100; i++ {
				c.Tick(2, x[0])
			}
			if in, count := due(t, c); in != x[1] || count != 2 || c.Replica(2).Role() != core.Candidate {
				t.Error(x, in, count)
			}
			if c.Replica(1).Term() != 0 || c.Replica(3).Term() != 0 {
				t.Error("heard")
			}
		}
	}
}

// P19.2: Tick of a replica that is not there.
func TestTickOfNobody(t *testing.T) {
	w := newTwin(t, 3, 1)
	w.rest(60)
	for _, k := range append([]int{4, 5}, odd...) {
		for range 100 {
			w.tick(k, 0)
		}
	}
	if w.c.Len() != 0 {
		t.Error(w.c.Len())
	}
	w.equal()
}

// candidate returns a cluster in which a replica has just asked for votes, and these messages are due.
func candidate(t *testing.T, n, clients int) *twin {
	t.Helper()
	w := newTwin(t, n, clients)
	for i := 0; w.c.Len() == 0; i++ {
		w.tick(1, 0)
		if i > 100 {
			t.Fatal("sends nothing")
		}
	}
	if w.c.Len() != n-1 {
		t.Fatal(w.c.Len())
	}
	return w
}

// P19.2: how many messages Deliver lets be heard, which ones, and by whom.
func TestDeliver(t *testing.T) {
	for _, x := range []struct{ most, heard int }{
		{math.MinInt, 0}, {-1, 0}, {0, 0}, {1, 1}, {2, 2}, {5, 5}, {6, 6}, {7, 6}, {2000, 6}, {math.MaxInt, 6},
	} {
		w := candidate(t, 7, 0)
		if heard := w.deliver(x.most, 5); heard != x.heard {
			t.Error(x, heard)
		}
		for k := 2; k <= 7; k++ {
			// They were sent in the order of their receivers.
			if voted := w.c.Replica(k).Term() == 1; voted != (k-1 <= x.heard) {
				t.Error(x, k, voted)
			}
		}
		if w.c.Len() != 6 || w.c.Replica(1).Role() != core.Candidate {
			t.Error(x, w.c.Len())
		}
		w.drained()
	}
}

// P19.2: nothing is due.
func TestDeliverNothing(t *testing.T) {
	w := newTwin(t, 3, 0)
	for _, most := range []int{-1, 0, 1, math.MaxInt} {
		if heard := w.deliver(most, 0); heard != 0 {
			t.Error(most, heard)
		}
	}
	for range 50 {
		w.tick(1, 2)
	}
	way := w.c.Len()
	for range 2 {
		if heard := w.deliver(math.MaxInt, 0); heard != 0 || way == 0 || w.c.Len() != way {
			t.Error(heard, way)
		}
		w.pass()
	}
	if heard := w.deliver(math.MaxInt, 1); heard != way {
		t.Error(heard, way)
	}
	w.equal()
}

// P19.2: when responses are due. Those without a delay are heard by the same call.
func TestResponses(t *testing.T) {
	for _, x := range delays {
		w := candidate(t, 3, 0)
		if x[1] > 0 {
			if heard := w.deliver(math.MaxInt, x[0]); heard != 2 {
				t.Error(x, heard)
			}
			if in, count := due(t, w.c); in != x[1] || count != 2 {
				t.Error(x, in, count)
			}
			continue
		}
		// Two are asked, and give their votes; the first one makes a leader, whose first entry is fed to both; who
		// confirms it is fed once more only with a Tick.
		for heard, want := 0, []int{2, 2, 2, 2, 0}; len(want) > 0; want = want[1:] {
			if heard = w.deliver(2, x[0]); heard != want[0] {
				t.Error(x, heard, want)
			}
		}
		if w.c.Replica(1).Role() != core.Leader || w.c.Replica(1).Commit() != 1 || w.c.Len() != 0 {
			t.Error(x)
		}
		w = candidate(t, 3, 0)
		if heard := w.deliver(math.MaxInt, x[0]); heard != 8 {
			t.Error(x, heard)
		}
		w.equal()
	}
}

// P19.2: what is sent in response is sent before the next message is heard.
func TestResponsesAtOnce(t *testing.T) {
	c, _ := New(3, 0)
	for i := 0; c.Len() == 0 && i < 100; i++ {
		c.Tick(1, 0)
	}
	c.Lossy(3)
	// The messages 1 and 2 were sent. The response of 2 is message 3, that of 3 is message 4.
	c.Deliver(2, 0)
	if list := taken(c); len(list) != 1 || list[0].From != 3 {
		t.Error(list)
	}
}

// P19.2: messages that no replica sent: to nobody, and to one that ignores them.
func TestForeign(t *testing.T) {
	w := newTwin(t, 3, 0)
	w.rest(60)
	for _, to := range append([]int{4, 5, 7, 8}, odd...) {
		w.c.Send(0, msg.Msg{Kind: msg.VoteAsk, From: 2, To: to, Term: 9})
	}
	way := w.c.Len()
	if heard := w.c.Deliver(3, 0); heard != 3 || w.c.Len() != way-3 {
		t.Error(heard, w.c.Len())
	}
	if heard := w.c.Deliver(math.MaxInt, 0); heard != way-3 || w.c.Len() != 0 {
		t.Error(heard)
	}
	w.c.Send(0, msg.Msg{Kind: msg.VoteAsk, From: 9, To: 1, Term: 9}, msg.Msg{To: 1}, msg.Msg{Kind: msg.Feed, From: 1, To: 1, Term: 9})
	if heard := w.c.Deliver(math.MaxInt, 0); heard != 3 || w.c.Len() != 0 {
		t.Error(heard)
	}
	w.equal()
}

// storm lets replicas send many messages, none of which is heard; it returns what is in transit.
func storm(c *Cluster, from, to int) []msg.Msg {
	for i := from; i < to; i++ {
		c.Tick(1+i*i%3, 0)
	}
	return taken(c)
}

// P19.2: which messages are lost, counted from the start of the cluster.
func TestLossy(t *testing.T) {
	sent := func() []msg.Msg {
		c, _ := New(3, 0)
		return storm(c, 0, 300)
	}()
	if len(sent) < 40 {
		t.Fatal(len(sent))
	}
	for _, n := range []int{math.MinInt, -3, -1, 0, 1, 2, 3, 4, 7, 30, len(sent), len(sent) + 1, math.MaxInt} {
		for _, ahead := range []int{0, 1, 60, 100} {
			c, _ := New(3, 0)
			got := storm(c, 0, ahead)
			before := len(got)
			c.Lossy(n)
			got = append(got, storm(c, ahead, 300)...)
			var want []msg.Msg
			for i, m := range sent {
				if i < before || n <= 0 || (i+1)%n != 0 {
					want = append(want, m)
				}
			}
			if !slices.EqualFunc(got, want, msg.Msg.Same) {
				t.Errorf("Lossy(%d) after %d: %d messages of %d, not %d", n, before, len(got), len(sent), len(want))
			}
		}
	}
}

// P19.2: one Lossy after another one; those that were lost count, too.
func TestLossyAgain(t *testing.T) {
	c, _ := New(3, 0)
	all, _ := New(3, 0)
	var got, want []msg.Msg
	count := 0
	for part, n := range []int{2, 0, 5, 1, -1, 3} {
		c.Lossy(n)
		got = append(got, storm(c, part*50, part*50+50)...)
		for _, m := range storm(all, part*50, part*50+50) {
			if count++; n <= 0 || count%n != 0 {
				want = append(want, m)
			}
		}
	}
	if count < 40 || len(got) == count || !slices.EqualFunc(got, want, msg.Msg.Same) {
		t.Errorf("%d messages of %d, not %d", len(got), count, len(want))
	}
}

// P19.2: responses, and what a Try sends, are lost too.
func TestLossyEverywhere(t *testing.T) {
	w := candidate(t, 3, 1)
	w.lossy(1)
	if heard := w.deliver(math.MaxInt, 0); heard != 2 || w.c.Len() != 0 {
		t.Error(heard, w.c.Len())
	}
	w.rest(60)
	w.lossy(1)
	w.call(1, open())
	w.try(1, w.c.Leader())
	if w.c.Len() != 0 || w.c.Replica(w.c.Leader()).Last() == w.c.Replica(w.c.Leader()).Commit() {
		t.Error(w.c.Len())
	}
	w.equal()
}

// P19.2: those count too for which there is no room in transit.
func TestLossyAndRoom(t *testing.T) {
	c, _ := New(3, 0)
	sent := storm(c, 0, 300)
	for _, free := range []int{0, 1, 3} {
		c, _ := New(3, 0)
		c.Send(0, make([]msg.Msg, 2000-free)...)
		before := c.Len()
		for i := range 60 {
			c.Tick(1+i*i%3, 0)
		}
		taken(c)
		c.Lossy(2)
		got := storm(c, 60, 300)
		all, _ := New(3, 0)
		count := len(storm(all, 0, 60))
		var want []msg.Msg
		for i, m := range sent[count:] {
			if (count+i+1)%2 != 0 {
				want = append(want, m)
			}
		}
		if before != 2000-free || count < 5 || !slices.EqualFunc(got, want, msg.Msg.Same) {
			t.Error(free, count, len(got), len(want))
		}
	}
}

// P19.2: what a Try sends is due at once.
func TestTrySends(t *testing.T) {
	for _, n := range []int{3, 5, 7} {
		c := rested(t, n, 1)
		c.Call(1, open())
		if a, ok := c.Try(1, c.Leader()); ok || a.E != api.ErrUnavail || c.Len() != n-1 {
			t.Error(a, ok, c.Len())
		}
		for _, m := range taken(c) {
			if m.Kind != msg.Feed || m.From != c.Leader() || len(m.Entries) != 1 {
				t.Error(m)
			}
		}
		if c.Len() != 0 {
			t.Error("not due")
		}
		if a, ok := c.Try(1, c.Leader()); ok || a.E != api.ErrUnavail || c.Len() != 0 {
			t.Error("again", a, ok, c.Len())
		}
	}
}

// P19.2: a replica without power is ticked, hears and is tried in vain.
func TestWithoutPower(t *testing.T) {
	w := newTwin(t, 3, 1)
	w.rest(60)
	lead := w.c.Leader()
	w.device(lead, func(d *dev.Device) { d.Fall(0) })
	w.call(1, open())
	if a, ok := w.try(1, lead); a.E != api.ErrUnavail || ok || w.c.Replica(lead).Err() != api.ErrDown {
		t.Error(a, ok)
	}
	for range 3 {
		w.tick(lead, 0)
	}
	if w.c.Len() != 0 {
		t.Error(w.c.Len())
	}
	for range 60 {
		w.round()
	}
	if w.c.Leader() != 0 || w.c.Replica(lead).Err() != api.ErrDown {
		t.Error(w.c.Leader())
	}
	w.equal()
	w.rest(60)
	if w.c.Leader() == 0 || w.c.Client(1).Busy() {
		t.Error(w.c.Leader(), w.c.Client(1).Busy())
	}
	w.equal()
}
