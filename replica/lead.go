package replica

import (
	"maps"
	"slices"

	"orchard/api"
	"orchard/core"
	"orchard/op"
	"orchard/pith"
	"orchard/state"
)

// Patience is how many of its ticks a leader waits to hear of a session.
const Patience = 200

// proposal is a command that the replica proposed in its term.
type proposal struct {
	text  string
	index int
}

// leads reports whether the replica leads. What it knows as the leader of an earlier term is forgotten.
func (r *Replica) leads() bool {
	if r.term != r.Term() {
		r.term, r.ticks = r.Term(), 0
		clear(r.heard)
		clear(r.proposed)
	}
	return r.Role() == core.Leader
}

// propose proposes a command, if it was not proposed in this term, or has to be again. It returns layer 12's error of
// its Bytes, or ErrUnavail if it cannot be proposed now.
func (r *Replica) propose(c op.Cmd) api.Errno {
	text, e := c.Bytes()
	if e != api.OK {
		return e
	}
	key := [2]int{c.Session, c.Req}
	list := r.proposed[key]
	k := slices.IndexFunc(list, func(p proposal) bool { return p.text == text })
	if k >= 0 && !r.again(list[k]) {
		return api.OK
	}
	i, e := r.Propose(text)
	if e != api.OK {
		return api.ErrUnavail
	}
	if k >= 0 {
		list[k].index = i
		return api.OK
	}
	r.proposed[key] = append(list, proposal{text, i})
	return api.OK
}

// again reports whether a command without a result has to be proposed again, since it has been executed in vain, and
// now would not be. So it is if its session was opened again since, or if there was no room for its session.
func (r *Replica) again(p proposal) bool {
	if p.index > r.state.At() {
		return false
	}
	c, _ := op.Read(p.text)
	next := r.state.Clone()
	next.Apply(p.text)
	_, done := answer(next, c)
	return done
}

// closeSilent proposes to close the sessions of which nothing was heard for too long.
func (r *Replica) closeSilent() {
	for _, session := range r.state.Sessions() {
		if !r.silent(r.heard[session]) {
			continue
		}
		if r.propose(op.Cmd{Kind: op.Close, Session: session, Req: pith.Most}) == api.OK {
			// Until it is executed, and if the session outlives it, this is not done at each tick.
			r.heard[session] = r.ticks
		}
	}
}

// silent reports whether a session that was heard last at a tick has been silent for too long.
func (r *Replica) silent(tick int) bool {
	return r.ticks-tick > Patience
}

// prune forgets what makes no difference any more: sessions that were heard so long ago that they are silent, and
// proposals that need not be executed.
func (r *Replica) prune() {
	maps.DeleteFunc(r.heard, func(_, tick int) bool { return r.silent(tick) })
	for key, list := range r.proposed {
		r.proposed[key] = slices.DeleteFunc(list, r.answered)
	}
	maps.DeleteFunc(r.proposed, func(_ [2]int, list []proposal) bool { return len(list) == 0 })
}

// answered reports whether what was proposed is answered now.
func (r *Replica) answered(p proposal) bool {
	c, _ := op.Read(p.text)
	_, done := answer(r.state, c)
	return done
}

// answer returns what a replica with a state answers to a command, if it need not be executed.
func answer(s *state.State, c op.Cmd) (Reply, bool) {
	exists := s.Has(c.Session)
	switch {
	case c.Kind == op.Open:
		return Reply{}, exists
	case c.Kind == op.Close && !exists:
		return Reply{}, true
	}
	result, seen, e := s.Kept(c.Session, c.Req)
	return Reply{E: e, Result: result}, seen || e != api.OK
}
