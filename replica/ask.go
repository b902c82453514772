package replica

import (
	"cmp"

	"orchard/api"
	"orchard/op"
	"orchard/tree"
	"orchard/watch"
)

// Reply is what a replica answers.
type Reply struct {
	E      api.Errno
	Result op.Result
	Node   tree.Node
	Kids   []string
	Events []watch.Event // the session's
	At     int           // the number of the last command that the replica knows
	Lead   int           // the leader that it knows of, or 0
}

// Do lets a command be executed once, and returns its result when it is; until then the call is repeated. A replica
// that does not know all commands up to least does not answer.
func (r *Replica) Do(c op.Cmd, least int) Reply {
	a := r.reply(c.Session, least)
	if a.E != api.OK {
		return a
	}
	if known, done := answer(r.state, c); done {
		a.E, a.Result = known.E, known.Result
		return a
	}
	a.E = r.request(c)
	if r.dead() {
		return Reply{E: api.ErrUnavail}
	}
	return a
}

// Get returns a node and its Kids. A replica that does not know all commands up to least does not answer.
func (r *Replica) Get(session int, s string, least int) Reply {
	a := r.reply(session, least)
	if a.E != api.OK {
		return a
	}
	a.Node, a.E = r.state.Get(s)
	a.Kids, _ = r.state.Kids(s)
	return a
}

// reply hears of a session, and returns what each answer to it says.
func (r *Replica) reply(session, least int) Reply {
	if r.dead() {
		return Reply{E: api.ErrUnavail}
	}
	if r.leads() {
		r.heard[session] = r.ticks
	}
	if r.state == nil || r.state.At() < least {
		return Reply{E: api.ErrUnavail}
	}
	return Reply{Events: r.state.Events(session), At: r.state.At(), Lead: r.Lead()}
}

// request lets the leader propose a command, and returns why there is no result yet.
func (r *Replica) request(c op.Cmd) api.Errno {
	if !r.leads() {
		return api.ErrLeader
	}
	return cmp.Or(r.propose(c), api.ErrUnavail)
}
