package replica

import (
	"fmt"
	"testing"

	"orchard/api"
	"orchard/core"
	"orchard/op"
	"orchard/watch"
)

// bound is within how many rounds one of so many replicas leads, and within how many all is well.
func bound(n int) int {
	if n == 3 {
		return 60
	}
	return 100
}

// absences are the sets of up to (n - 1) / 2 of n replicas.
func absences(n int) [][]bool {
	var list [][]bool
	for set := range 1 << n {
		off, count := make([]bool, n+1), 0
		for k := 1; k <= n; k++ {
			if off[k] = set>>(k-1)&1 == 1; off[k] {
				count++
			}
		}
		if count <= (n-1)/2 {
			list = append(list, off)
		}
	}
	return list
}

// inTime asks for a command, which must have a result within so many rounds.
func (w *world) inTime(c op.Cmd, most int) Reply {
	w.t.Helper()
	a, rounds := w.ask(c)
	if a.E != api.OK || a.Result.E != api.OK || rounds > most {
		w.fail("%v after %d rounds: %v", c, rounds, a)
	}
	return a
}

// P16.4: Do has a result within ten rounds once there is a leader, or else within ten more than that takes, whichever
// replicas are absent; then others are.
func TestDoInTime(t *testing.T) {
	for _, n := range []int{3, 5, 7} {
		list := absences(n)
		for i, off := range list {
			w := newWorld(t, n, int64(i))
			w.lazy = i%2 == 0
			for j := range 3 {
				copy(w.off, list[(i+j*17)%len(list)])
				w.name = fmt.Sprintf("%d replicas, absent %v after %v", n, w.off, off)
				w.inTime(open(1+j), bound(n)+10)
				w.led()
				for req := 1; req <= 5; req++ {
					w.inTime(create(1+j, req), 10)
				}
				w.inTime(op.Cmd{Kind: op.Watch, Session: 1 + j, Req: 6, Path: "/"}, 10)
				w.inTime(op.Cmd{Kind: op.Sync, Session: 1 + j, Req: 7}, 10)
				w.inTime(set(1+j, 8, "x"), 10)
				w.inTime(shut(1+j, 9), 10)
				w.rounds(7)
				if !w.level() {
					w.fail("not level")
				}
			}
		}
	}
}

// P16.4: so of all clients at once, in each round; their requests are executed once, in order.
func TestAllAtOnce(t *testing.T) {
	for _, n := range []int{3, 5, 7} {
		w := newWorld(t, n, 1)
		w.led()
		for id := 1; id <= api.MaxSess; id++ {
			w.clients = append(w.clients, &client{id: id, cmd: open(id), busy: true})
		}
		w.until(10, "opened", func() bool { return !w.busy() })
		for req := 1; req <= 30; req++ {
			for _, c := range w.clients {
				c.cmd, c.busy, c.ahead = set(c.id, req, fmt.Sprint(c.id, req)), true, w.ahead
			}
			w.until(10, "answered", func() bool { return !w.busy() })
		}
		w.rounds(7)
		node, _ := w.reps[2].State().Get("/")
		if node.Version != 30*api.MaxSess || !w.level() || !w.well() {
			w.fail("%v", node)
		}
	}
}

// P16.4: 80 rounds after sessions have ended by themselves the effects are complete, of all of them at once.
func TestEndedSessions(t *testing.T) {
	for _, n := range []int{3, 5, 7} {
		for _, heard := range []int{0, 1} { // of how many sessions is heard
			w := newWorld(t, n, 1)
			w.led()
			for id := 1; id <= api.MaxSess; id++ {
				w.inTime(open(id), 10)
				w.inTime(op.Made(id, 1, op.Op{Does: op.Create, Path: fmt.Sprintf("/own%d", id), Own: true, Version: -1}), 10)
			}
			w.inTime(op.Cmd{Kind: op.Watch, Session: 1, Req: 2, Path: "/own2"}, 10)
			for range Patience + 80 {
				for id := 1; id <= heard; id++ {
					w.get(w.leader(), id, "/", 0)
				}
				w.round()
			}
			for k := 1; k <= n; k++ {
				s := w.reps[k].State()
				kids, _ := s.Kids("/")
				if len(s.Sessions()) != heard || len(kids) != heard || len(s.Events(1)) != heard || !w.level() {
					w.fail("%d: %v, %v, %v", k, s.Sessions(), kids, s.Events(1))
				}
			}
		}
	}
}

// P16.4: a session that gets too many events ends, for all replicas; the others are told.
func TestTooManyEvents(t *testing.T) {
	w := settled(t, 3, 1)
	w.inTime(open(2), 10)
	w.inTime(op.Made(2, 1, op.Op{Does: op.Create, Path: "/own", Own: true, Version: -1}), 10)
	w.inTime(op.Cmd{Kind: op.Watch, Session: 2, Req: 2, Path: "/"}, 10)
	w.inTime(op.Cmd{Kind: op.Watch, Session: 1, Req: 2, Path: "/own"}, 10)
	for req := 3; req <= 8; req++ {
		if a, _ := w.ask(open(2)); len(a.Events) != req-3 {
			t.Error(req, a)
		}
		w.inTime(set(1, req, "x"), 10)
	}
	w.rounds(2)
	for k := 1; k <= 3; k++ {
		s := w.reps[k].State()
		if s.Has(2) || len(s.Events(1)) != 1 || s.Events(1)[0].What != watch.Gone || s.Len() != 1 {
			w.fail("%d: %v", k, s.Events(1))
		}
	}
	a, _ := w.ask(create(2, 3))
	if a.E != api.ErrSession {
		t.Error(a)
	}
}

// P16.4: with one replica that was damaged of three, two of five and three of seven, in what it has stored.
func TestDamagedInTime(t *testing.T) {
	for _, n := range []int{3, 5, 7} {
		for seed := range int64(20) {
			w := newWorld(t, n, seed)
			w.led()
			w.inTime(open(1), 10)
			for req := 1; req <= 45; req++ {
				w.inTime(create(1, req), 10)
			}
			for range (n - 1) / 2 {
				k := 1 + w.r.Intn(n)
				w.devs[k] = w.devs[k].Crash()
				for b := 2; b < core.Blocks; b++ {
					if w.r.Intn(3) == 0 {
						w.devs[k].Lose(b)
					} else if w.r.Intn(3) == 0 {
						w.devs[k].Flip(b, w.r.Intn(512), 1)
					}
				}
				w.open(k)
			}
			rounds := w.until(150, "well", w.well)
			for req := 46; req <= 50; req++ {
				w.inTime(create(1, req), 10)
			}
			w.rounds(7)
			if !w.level() || rounds > 110 {
				w.fail("%d rounds", rounds)
			}
		}
	}
}

// P16.1, P16.4: if everything is damaged nobody leads, and nothing is answered that is not known.
func TestAllDamaged(t *testing.T) {
	w := settled(t, 3, 10)
	for k := 1; k <= 3; k++ {
		w.devs[k] = w.devs[k].Crash()
		w.devs[k].Lose(logBase + 4)
	}
	for k := 1; k <= 3; k++ {
		w.open(k)
	}
	for range 300 {
		w.round()
		if a, ok := w.try(set(1, 11, "x"), 1); ok || w.reps[1].Role() == core.Leader {
			w.fail("%v", a)
		}
	}
}
