package client

import (
	"fmt"
	"testing"

	"orchard/api"
	"orchard/core"
	"orchard/op"
	"orchard/replica"
)

// inTime lets a client call a command, which must be answered within so many rounds.
func (w *world) inTime(c *Client, cmd op.Cmd, most int) replica.Reply {
	w.t.Helper()
	w.calls(c, cmd)
	a, rounds := w.waits(c)
	if rounds > most || a.E != api.OK || a.Result.E != api.OK {
		w.fail("%v after %d rounds: %v", c.Cmd(), rounds, a)
	}
	return a
}

// allInTime lets a client call a command of each Kind, and reads what they did.
func (w *world) allInTime(id, first int) {
	w.t.Helper()
	c := New(id)
	w.inTime(c, op.Cmd{Kind: op.Open}, first)
	w.inTime(c, op.Cmd{Kind: op.Watch, Path: "/"}, 10)
	for i := range 7 {
		data := fmt.Sprint(id, i)
		a := w.inTime(c, set(data), 10)
		if a.Result.When == 0 || c.Seen() < a.Result.When {
			w.fail("%v, Seen %d", a, c.Seen())
		}
		for k := 1; k <= w.n; k++ {
			if a := c.Read(w.reps[k], "/"); a.E != api.ErrUnavail && a.Node.Data != data {
				w.fail("%d returns %v for what was set to %s", k, a, data)
			}
		}
		if c.Noted() != i+1 || len(c.Events()) != i+1 {
			w.fail("%d changes, and events %v", i+1, c.Events())
		}
	}
	w.inTime(c, op.Cmd{Kind: op.Sync}, 10)
	w.inTime(c, create(), 10)
	w.inTime(c, op.Cmd{Kind: op.Close}, 10)
	// All that are up know this before another client, that has seen nothing, opens the session again.
	w.rounds(6)
}

// within is within how many rounds all is well, also if it was not before (P15.6).
const within = 150

// The chapter's example: a client that calls Open, and tries the leader in every round, is answered.
func TestExample(t *testing.T) {
	for _, n := range []int{3, 5, 7} {
		w := newWorld(t, n)
		c := New(5)
		w.calls(c, op.Cmd{Kind: op.Open})
		for i := 0; c.Busy(); i++ {
			a, ok := c.Try(w.reps[w.leader()])
			if ok && (a.E != api.OK || !w.reps[w.leader()].State().Has(5)) || i > 10 {
				t.Fatal(i, a)
			}
			w.round()
		}
	}
}

// P18.3: whichever replicas are absent; first one after the other, then half of them.
func TestInTime(t *testing.T) {
	for _, n := range []int{3, 5, 7} {
		w := newWorld(t, n)
		w.allInTime(1, within+10)
		for k := range n + 1 {
			for _, count := range []int{1, (n - 1) / 2} {
				clear(w.off)
				for i := range count {
					w.off[1+(k+i)%n] = true
				}
				w.name = fmt.Sprintf("%d replicas, absent %v", n, w.off)
				w.allInTime(2+k, within+10)
			}
		}
		clear(w.off)
		w.rounds(within)
		if !w.well() {
			w.fail("not well")
		}
		w.allInTime(1, 10)
	}
}

// P18.3: so when the leader is gone in the middle of it.
func TestLeaderGone(t *testing.T) {
	for _, n := range []int{3, 5, 7} {
		for _, late := range []bool{false, true} { // whether what it proposed is sent
			w, c := settled(t, n, 1)
			for i := range 5 {
				lead := w.leader()
				w.calls(c, create())
				w.tries(c)
				if late {
					w.round()
				}
				w.crash(lead)
				w.off[lead] = true
				if a, rounds := w.waits(c); rounds > 110 || a.E != api.OK || a.Result.E != api.OK {
					w.fail("%d rounds: %v", rounds, a)
				}
				w.off[lead] = false
				if a := w.inTime(c, op.Cmd{Kind: op.Sync}, within+10); a.E != api.OK {
					w.fail("%v", a)
				}
				a := c.Read(w.reps[w.leader()], "/")
				if a.E != api.OK || len(a.Kids) != i+1 {
					w.fail("created %d times: %v", i+1, a)
				}
			}
		}
	}
}

// P18.3: after failures of the power of all, and damage to fewer than half of them; also of a client that has seen all
// that was executed before.
func TestDamaged(t *testing.T) {
	for _, n := range []int{3, 5, 7} {
		w, c := settled(t, n, 10)
		for i := range 6 {
			w.allInTime(1+i, within+10)
			w.inTime(c, set("last"), 10)
			seen := c.Seen()
			for k := 1; k <= n; k++ {
				w.crash(k)
			}
			for k := 1; k <= (n-1)/2; k++ {
				d := w.devs[k].Crash()
				for b := 2 + i; b < core.Blocks; b += 3 + i {
					d.Lose(b)
				}
				w.devs[k] = d
				w.open(k)
			}
			if a := w.inTime(c, op.Cmd{Kind: op.Sync}, within+10); a.At <= seen {
				w.fail("%v behind %d", a, seen)
			}
		}
		w.allInTime(9, within+10)
	}
}

// P18.3: all clients at once, each with command after command.
func TestAllAtOnce(t *testing.T) {
	for _, n := range []int{3, 5, 7} {
		w := newWorld(t, n)
		w.leader()
		var list []*Client
		for id := 1; id <= api.MaxSess; id++ {
			list = append(list, New(id))
		}
		for i := range 20 {
			for _, c := range list {
				cmd := set(fmt.Sprint(c.ID, i))
				if i == 0 {
					cmd = op.Cmd{Kind: op.Open}
				}
				w.calls(c, cmd)
			}
			for rounds, busy := 0, true; busy; rounds++ {
				busy = false
				for _, c := range list {
					w.tries(c)
					busy = busy || c.Busy()
				}
				if rounds > 10 {
					w.fail("not answered")
				}
				w.round()
			}
		}
		w.rounds(6)
		for _, c := range list {
			for k := 1; k <= n; k++ {
				if a := c.Read(w.reps[k], "/"); a.E != api.OK || a.Node.Version != 19*api.MaxSess {
					w.fail("%v", a)
				}
			}
		}
	}
}
