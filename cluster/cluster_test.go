package cluster

import (
	"math"
	"testing"

	"orchard/api"
	"orchard/core"
	"orchard/dev"
	"orchard/msg"
	"orchard/op"
	"orchard/state"
)

// odd are numbers that are none of a replica or a client.
var odd = []int{math.MinInt, math.MinInt + 1, -1000, -17, -1, 0, 18, 100, 1 << 31, 1 << 32, math.MaxInt - 1, math.MaxInt}

// P19.1: which clusters there are.
func TestNew(t *testing.T) {
	numbers := append([]int{1, 2, 3, 4, 5, 6, 7, 8, 9, 10, 11, 12, 13, 14, 15, 16, 17}, odd...)
	for _, n := range numbers {
		for _, clients := range numbers {
			c, e := New(n, clients)
			if (n == 3 || n == 5 || n == 7) && clients >= 0 && clients <= 16 {
				if e != api.OK || c == nil {
					t.Fatal(n, clients, e)
				}
				isNew(t, c, n, clients)
				continue
			}
			if e != api.ErrArg || c != nil {
				t.Error(n, clients, e)
			}
		}
	}
}

// isNew fails unless a cluster has so many new replicas and clients, and nothing in transit.
func isNew(t *testing.T, c *Cluster, n, clients int) {
	t.Helper()
	if c.Size() != n || c.Now() != 0 || c.Len() != 0 || c.Leader() != 0 || !c.Level() {
		t.Error(c.Size(), c.Now(), c.Len(), c.Leader(), c.Level())
	}
	if _, is := c.Next(); is {
		t.Error("a message")
	}
	for k := 1; k <= n; k++ {
		r, d := c.Replica(k), c.Device(k)
		if r == nil || d == nil || !sameBlocks(d, dev.New(core.Blocks)) {
			t.Fatal("the device of", k)
		}
		if r.Role() != core.Follower || r.Term() != 0 || r.Lead() != 0 || r.Commit() != 0 || r.First() != 1 || r.Last() != 0 ||
			r.Err() != api.OK || !r.Clean() || !r.State().Is(state.New()) {
			t.Error("replica", k)
		}
	}
	for id := 1; id <= clients; id++ {
		x := c.Client(id)
		if x == nil || x.ID != id || x.Seen() != 0 || x.Noted() != 0 || x.Busy() || len(x.Events()) != 0 {
			t.Error("client", id, x)
		}
	}
}

// P19.1: replicas, devices and clients by their numbers; there are no others.
func TestParts(t *testing.T) {
	for _, n := range []int{3, 5, 7} {
		for _, clients := range []int{0, 1, 2, 16} {
			c, _ := New(n, clients)
			for _, k := range append([]int{n + 1, n + 2, 8, 16, 17}, odd...) {
				if c.Replica(k) != nil || c.Device(k) != nil {
					t.Error("there is a replica", k, "of", n)
				}
			}
			for _, id := range append([]int{clients + 1, clients + 2, 17}, odd...) {
				if c.Client(id) != nil {
					t.Error("there is a client", id, "of", clients)
				}
			}
			found := map[any]bool{}
			for range 2 {
				for k := 1; k <= n; k++ {
					found[c.Replica(k)], found[c.Device(k)] = true, true
				}
				for id := 1; id <= clients; id++ {
					found[c.Client(id)] = true
				}
			}
			if len(found) != 2*n+clients {
				t.Error("not each its own")
			}
		}
	}
}

// P19.1: replica k is replica k of n, and its device is its own.
func TestWhichReplica(t *testing.T) {
	for _, n := range []int{3, 5, 7} {
		for k := 1; k <= n; k++ {
			c, _ := New(n, 0)
			for i := 0; c.Len() == 0; i++ {
				c.Tick(k, 0)
				if i > 100 {
					t.Fatal("sends nothing")
				}
			}
			if c.Len() != n-1 {
				t.Error(n, k, c.Len())
			}
			for c.Len() > 0 {
				if m, is := c.Next(); !is || m.From != k || m.Kind != msg.VoteAsk {
					t.Error(n, k, m)
				}
			}
			c, _ = New(n, 0)
			c.Device(k).Fall(0)
			for range 100 {
				for o := 1; o <= n; o++ {
					c.Tick(o, 0)
				}
			}
			for o := 1; o <= n; o++ {
				if down := c.Replica(o).Err() == api.ErrDown; down != (o == k) || c.Device(o).Down() != down {
					t.Error(n, k, o, c.Replica(o).Err())
				}
			}
		}
	}
}

// P19.1: clusters have nothing in common.
func TestApart(t *testing.T) {
	a, b := newTwin(t, 3, 1), newTwin(t, 3, 1)
	a.call(1, open())
	a.rest(60)
	isNew(t, b.c, 3, 1)
	b.rest(3)
	a.equal()
	b.equal()
}

// P19.1, P17.1: a Cluster is a Net, too.
func TestNet(t *testing.T) {
	c, _ := New(3, 0)
	c.Send(2, msg.Msg{Term: 1}, msg.Msg{Term: 2})
	c.Send(1, msg.Msg{Term: 3})
	if c.Len() != 3 || c.Net.Len() != 3 {
		t.Error(c.Len())
	}
	c.Pass()
	if m, is := c.Next(); !is || m.Term != 3 || c.Now() != 1 {
		t.Error(m, is, c.Now())
	}
	if m, is := c.Next(); is {
		t.Error(m)
	}
	c.Clear()
	if c.Len() != 0 || c.Now() != 1 {
		t.Error(c.Len(), c.Now())
	}
}

// The chapter's example.
func TestExample(t *testing.T) {
	c, e := New(3, 1)
	if e != api.OK || c.Rest(60) != api.OK || c.Leader() == 0 || !c.Level() {
		t.Error(e, c.Leader(), c.Level())
	}
}

// P19.3: Leader, in a cluster that has one, and as its replicas and what they know change.
func TestLeader(t *testing.T) {
	for _, n := range []int{3, 5, 7} {
		c, _ := New(n, 0)
		for i := 0; c.Leader() == 0; i++ {
			if i > 100 {
				t.Fatal("nobody leads")
			}
			c.Round()
		}
		lead := c.Leader()
		if c.Replica(lead).Role() != core.Leader {
			t.Error(lead, "does not lead")
		}
		for k := 1; k <= n; k++ {
			if c.Leader() != lead {
				t.Fatal(n, k, c.Leader())
			}
			// One that was opened again, the leader too, does not know its leader at once.
			c.Crash(k)
			if c.Leader() != 0 {
				t.Error(n, k, c.Leader())
			}
			c.Rest(60)
			lead = c.Leader()
		}
		for k := n; k >= 1; k-- {
			c.Crash(k)
			if c.Leader() != 0 {
				t.Error(n, k, c.Leader())
			}
		}
		if c.Rest(100); c.Leader() == 0 || !c.Level() {
			t.Error(n, c.Leader(), c.Level())
		}
	}
}

// P19.3: Leader, while a leader that the others do not hear goes on, until it hears of the next one.
func TestTwoLeaders(t *testing.T) {
	for _, n := range []int{3, 5, 7} {
		c := rested(t, n, 0)
		old := c.Leader()
		leaders := func() (count int) {
			for k := 1; k <= n; k++ {
				if c.Replica(k).Role() == core.Leader {
					count++
				}
			}
			return count
		}
		for i := 0; leaders() < 2; i++ {
			for k := 1; k <= n; k++ {
				if k != old {
					c.Tick(k, 0)
				}
			}
			for c.Len() > 0 {
				if m, _ := c.Next(); m.From != old && m.To != old {
					c.Replica(m.To).Hear(m)
					c.Send(0, c.Replica(m.To).Out()...)
				}
			}
			if i > 100 {
				t.Fatal("no other leader")
			}
		}
		if c.Leader() != 0 {
			t.Error(c.Leader())
		}
		c.Round()
		if lead := c.Leader(); lead == 0 || lead == old || leaders() != 1 {
			t.Error(lead, old, leaders())
		}
	}
}

// P19.3: Leader, when a replica is Lost.
func TestLeaderAndLost(t *testing.T) {
	c := rested(t, 5, 0)
	k := 1 + c.Leader()%5
	c.Device(k).Lose(0)
	c.Device(k).Lose(1)
	if c.Leader() == 0 {
		t.Error("not read")
	}
	c.Crash(k)
	if c.Replica(k).Role() != core.Lost {
		t.Fatal("not lost")
	}
	c.Rest(60)
	if c.Leader() != 0 || c.Level() {
		t.Error(c.Leader(), c.Level())
	}
}

// P19.3: Level, when a replica is not Clean.
func TestLevelAndClean(t *testing.T) {
	for k := 1; k <= 3; k++ {
		c := rested(t, 3, 1)
		last := core.Blocks - 2*core.LogSize + c.Replica(k).Last()
		c.Device(k).Lose(last)
		if !c.Level() {
			t.Error(k, "not read")
		}
		c.Replica(k).Scrub()
		if c.Replica(k).Clean() || c.Level() {
			t.Error(k, c.Replica(k).Clean(), c.Level())
		}
		c.Rest(60)
		if !c.Level() {
			t.Error(k, "not repaired")
		}
	}
}

// P19.3: Level, when a replica, or each of them, does not know its State, but is Clean.
func TestLevelAndUnknown(t *testing.T) {
	for who := 1; who < 8; who++ {
		c := rested(t, 3, 1)
		for k := 1; k <= 3; k++ {
			r := c.Replica(k)
			if e := r.Compact(r.Commit(), "no state"); e != api.OK {
				t.Fatal(e)
			}
		}
		if !c.Level() {
			t.Error(who, "its State is not what its snapshot is")
		}
		for k := 1; k <= 3; k++ {
			if who&(1<<(k-1)) == 0 {
				continue
			}
			c.Crash(k)
			if r := c.Replica(k); r.State() != nil || !r.Clean() {
				t.Fatal(who, k, r.State(), r.Clean())
			}
		}
		if c.Level() {
			t.Error(who)
		}
	}
}

// P19.3: Level, when a replica's State is not that of the others.
func TestLevelAndStates(t *testing.T) {
	for k := 1; k <= 3; k++ {
		c := rested(t, 3, 1)
		s := c.Replica(k).State()
		was := s.Clone()
		s.Apply("")
		if c.Level() {
			t.Error(k, "one is ahead")
		}
		*s = *was
		if !c.Level() {
			t.Error(k)
		}
		s.Set("/", "x", -1, 1)
		if c.Level() {
			t.Error(k, "one has another tree")
		}
	}
	// What is committed by the leader, before the others hear of it.
	c := rested(t, 3, 1)
	c.Call(1, open())
	c.Try(1, c.Leader())
	for c.Len() > 0 {
		c.Deliver(1, 0)
		if at := c.Replica(c.Leader()).State().At(); at > c.Replica(1+c.Leader()%3).State().At() {
			break
		}
	}
	if c.Level() {
		t.Error("level")
	}
	c.Rest(5)
	if !c.Level() {
		t.Error("not level")
	}
}

// P19.2: Call, Try and Read of clients and replicas that are not there.
func TestNobody(t *testing.T) {
	w := newTwin(t, 3, 2)
	w.rest(60)
	w.call(1, open())
	for _, id := range append([]int{3, 4}, odd...) {
		for _, cmd := range []op.Cmd{open(), set("x"), {}, {Kind: op.Sync, Session: 1}} {
			if e := w.call(id, cmd); e != api.ErrArg {
				t.Error(id, e)
			}
		}
		for k := -1; k <= 5; k++ {
			if a, ok := w.try(id, k); a.E != api.ErrArg || ok {
				t.Error(id, k, a, ok)
			}
			if a := w.read(id, k, "/"); a.E != api.ErrArg {
				t.Error(id, k, a)
			}
		}
	}
	for _, k := range append([]int{4, 5}, odd...) {
		for id := 1; id <= 2; id++ {
			if a, ok := w.try(id, k); a.E != api.ErrArg || ok {
				t.Error(id, k, a, ok)
			}
			if a := w.read(id, k, "/"); a.E != api.ErrArg {
				t.Error(id, k, a)
			}
		}
	}
	if w.c.Len() != 0 || !w.c.Client(1).Busy() || w.c.Client(2).Busy() {
		t.Error("not without effect")
	}
	w.equal()
}

// P19.2: Call, Try and Read are those of the client, with that replica.
func TestClients(t *testing.T) {
	w := newTwin(t, 3, 3)
	w.rest(60)
	lead := w.c.Leader()
	other := 1 + lead%3
	if a, ok := w.try(2, lead); a.E != api.ErrArg || ok {
		t.Error("not busy", a, ok)
	}
	if e := w.call(2, op.Cmd{Kind: op.Empty}); e != api.ErrArg {
		t.Error(e)
	}
	if e := w.call(2, open()); e != api.OK || !w.c.Client(2).Busy() || w.c.Client(1).Busy() || w.c.Client(3).Busy() {
		t.Error(e)
	}
	if e := w.call(2, set("x")); e != api.ErrArg {
		t.Error(e)
	}
	if a, ok := w.try(2, other); a.E != api.ErrLeader || ok || w.c.Len() != 0 {
		t.Error(a, ok)
	}
	if a, ok := w.try(2, lead); a.E != api.ErrUnavail || ok {
		t.Error(a, ok)
	}
	w.round()
	if a, ok := w.try(2, lead); a.E != api.OK || !ok || w.c.Client(2).Busy() || w.c.Client(2).Seen() != a.At {
		t.Error(a, ok)
	}
	for w.round(); w.c.Replica(other).State().At() < w.c.Replica(lead).State().At(); {
		w.round()
	}
	for _, k := range []int{lead, other} {
		if a := w.read(2, k, "/"); a.E != api.OK || a.Lead != lead || a.At != w.c.Replica(k).State().At() {
			t.Error(k, a)
		}
		if a := w.read(1, k, "a"); a.E != api.ErrPath {
			t.Error(k, a)
		}
		if a := w.read(3, k, "/a"); a.E != api.ErrNode {
			t.Error(k, a)
		}
	}
	w.equal()
}
