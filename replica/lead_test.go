package replica

import (
	"testing"

	"orchard/core"
	"orchard/msg"
	"orchard/op"
	"orchard/pith"
)

// closes returns how many times a replica's log has the end of a session by a leader.
func (w *world) closes(k, session int) int {
	return w.entries(k, shut(session, pith.Most))
}

// P16.1: a leader proposes to close a session of which it heard nothing for one tick more than Patience, and not
// before, whatever it heard last.
func TestSilentSession(t *testing.T) {
	for name, talk := range map[string]func(r *Replica){
		"a stored Result":   func(r *Replica) { r.Do(set(1, 3, "x"), 0) },
		"an older request":  func(r *Replica) { r.Do(set(1, 1, "x"), 0) },
		"a new request":     func(r *Replica) { r.Do(set(1, 4, "x"), 0) },
		"an Open":           func(r *Replica) { r.Do(open(1), 0) },
		"no valid request":  func(r *Replica) { r.Do(op.Cmd{Kind: -1, Session: 1}, 0) },
		"one that it lacks": func(r *Replica) { r.Do(set(1, 3, "x"), 1000) },
		"Get":               func(r *Replica) { r.Get(1, "/", 0) },
		"Get of no path":    func(r *Replica) { r.Get(1, "", 0) },
		"Get that it lacks": func(r *Replica) { r.Get(1, "/", 1000) },
	} {
		w := settled(t, 3, 3)
		w.name = name
		if Patience != 200 {
			t.Error(Patience)
		}
		r := w.reps[w.leader()]
		w.rounds(100)
		talk(r)
		w.rounds(Patience)
		last := r.Last()
		if w.closes(w.leader(), 1) != 0 || !r.State().Has(1) {
			w.fail("too early")
		}
		w.tick(w.leader())
		if w.closes(w.leader(), 1) != 1 || r.Last() != last+1 {
			w.fail("too late")
		}
		w.rounds(3)
		for k := 1; k <= 3; k++ {
			if w.reps[k].State().Has(1) || w.closes(k, 1) != 1 {
				w.fail("%d has the session", k)
			}
		}
		w.rounds(2 * Patience)
		if w.reps[1].Last() != last+1 {
			w.fail("proposed again")
		}
	}
}

// P16.1: a session that is heard of time and again remains; others do not, and what another replica hears does not
// count.
func TestOthersSilent(t *testing.T) {
	w := settled(t, 3, 1)
	for id := 2; id <= 5; id++ {
		w.ask(open(id))
		w.ask(op.Made(id, 1, op.Op{Does: op.Create, Path: "/own", Version: -1, Serial: true, Own: true}))
	}
	w.ask(op.Cmd{Kind: op.Watch, Session: 3, Req: 2, Path: "/", Kids: true})
	lead := w.leader()
	for i := range 3 * Patience {
		if i%Patience == 0 {
			w.get(lead, 3, "/no", 0)
		}
		for _, k := range []int{1, 2, 3} {
			if k != lead {
				w.get(k, 4, "/", 0)
				w.do(k, set(4, 2, "x"), 0)
			}
		}
		if i < Patience {
			w.get(lead, 5, "/", 0)
		}
		w.round()
	}
	for k := 1; k <= 3; k++ {
		s := w.reps[k].State()
		kids, _ := s.Kids("/")
		if len(s.Sessions()) != 1 || !s.Has(3) || len(kids) != 1 || len(s.Events(3)) != 3 {
			w.fail("%d: %v %v", k, s.Sessions(), kids)
		}
	}
}

// P16.1: another leader counts its own ticks, and only as a leader, as the same one does in a later term.
func TestAnotherLeader(t *testing.T) {
	for _, next := range []int{1, 2} {
		w := settled(t, 3, 1)
		w.rounds(Patience - 20)
		w.elect(next)
		w.drain()
		w.rounds(Patience)
		if w.leader() != next || w.closes(next, 1) != 0 {
			w.fail("too early")
		}
		w.round()
		if w.closes(next, 1) != 1 {
			w.fail("too late")
		}
	}
}

// P16.1: who does not lead does not propose to close anything, however long it is ticked.
func TestFollowersDoNotClose(t *testing.T) {
	w := settled(t, 3, 1)
	for range 500 {
		w.ask(open(1))
		w.do(w.leader(), open(1), 0)
		w.round()
	}
	for k := 1; k <= 3; k++ {
		if w.closes(k, 1) != 0 || w.reps[k].Last() != 3 {
			w.fail("closed")
		}
	}
	// A leader that hears of nobody any more proposes it once, and nobody knows.
	lead := w.leader()
	w.off[lead] = true
	r := w.reps[lead]
	for range Patience + 2 {
		r.Tick()
	}
	if r.Role() != core.Leader || w.closes(lead, 1) != 1 || !r.State().Has(1) {
		w.fail("not proposed")
	}
}

// P16.1: if there is no room to propose it, it is proposed when there is.
func TestCloseWithoutRoom(t *testing.T) {
	w := settled(t, 3, 1)
	lead := w.leader()
	r := w.reps[lead]
	for id := 2; id <= 6; id++ {
		w.ask(open(id))
	}
	for range Patience - 10 {
		w.round()
		w.get(lead, 1, "/", 0)
	}
	for _, k := range []int{1, 2, 3} {
		w.off[k] = k != lead
	}
	req := 1
	for range 40 {
		for r.Room() >= core.Spare {
			req++
			w.do(lead, set(1, req, "x"), 0)
		}
		w.tick(lead)
	}
	for id := 2; id <= 6; id++ {
		if w.closes(lead, id) != 0 {
			w.fail("closed")
		}
	}
	w.get(lead, 2, "/", 0)
	clear(w.off)
	w.rounds(4)
	for id := 2; id <= 6; id++ {
		if r.State().Has(id) != (id == 2) {
			w.fail("%v", r.State().Sessions())
		}
	}
}

// P16.1: a session whose last Req is the greatest cannot be closed; that is not tried all the time.
func TestGreatestReq(t *testing.T) {
	w := settled(t, 3, 1)
	w.ask(set(1, pith.Most, "x"))
	last := w.reps[1].Last()
	w.rounds(4*Patience + 10)
	if r := w.reps[1]; r.Last() > last+4 || r.Last() < last+1 || !r.State().Has(1) {
		w.fail("Last was %d", last)
	}
}

// LANGUAGE.md 8: what makes no difference any more is forgotten.
func TestForgotten(t *testing.T) {
	w := settled(t, 3, 1)
	lead := w.leader()
	r := w.reps[lead]
	for i := range 1000 {
		w.get(lead, i, "/", 0)
		if i%10 == 0 {
			w.ask(open(2))
			w.ask(create(2, 1))
			w.ask(op.Made(2, 2, op.Op{Does: op.Delete, Path: "/n0000000000", Version: -1}))
			w.ask(shut(2, 3))
		}
		w.tick(lead)
	}
	if len(r.heard) > Patience+1 || len(r.proposed) > 8 || len(r.marks) > 8 {
		t.Error(len(r.heard), len(r.proposed), len(r.marks))
	}
	w.rounds(3 * Patience)
	if len(r.heard) != 0 || len(r.proposed) != 0 {
		t.Error(r.heard, r.proposed)
	}
	w.get(lead, 1, "/", 0)
	w.do(lead, open(3), 0)
	if len(r.heard) != 2 || len(r.proposed) != 1 {
		t.Error(r.heard, r.proposed)
	}
	r.Hear(msg.Msg{Kind: msg.VoteAsk, From: lead%3 + 1, To: lead, Term: r.Term() + 1})
	r.Tick()
	if len(r.heard) != 0 || len(r.proposed) != 0 {
		t.Error(r.heard, r.proposed)
	}
	// Nor is anything kept of what others hear.
	for _, k := range []int{1, 2, 3} {
		if r := w.reps[k]; k != lead && (len(r.heard) != 0 || len(r.proposed) != 0) {
			t.Error(r.heard, r.proposed)
		}
	}
}
