package core

import (
	"orchard/api"
	"orchard/head"
	"orchard/msg"
	"orchard/plog"
)

// patience is how many ticks each replica waits for a leader. No two of the numbers have a common divisor, and none of
// them is a sum of others: so two replicas that want to lead in the same round do not do so time and again.
var patience = [api.MaxPeers]int{11, 13, 15, 16, 17, 19, 23}

// enter stores another term, or a vote, and ends what the replica did in the last term.
func (c *Core) enter(term, vote int) bool {
	h := c.head.Head()
	h.Term, h.Vote = term, vote
	if !c.put(h) {
		return false
	}
	c.role, c.lead = Follower, 0
	return true
}

// put stores a head.
func (c *Core) put(h head.Head) bool {
	return c.check(c.head.Put(h))
}

// resign ends that the replica leads, or wants to.
func (c *Core) resign() {
	if c.role == Leader || c.role == Candidate {
		c.role = Follower
	}
	if c.lead == c.me || c.err != api.OK {
		c.lead = 0
	}
}

// campaign lets the replica want to lead, in the next term. It reads everything before, so that no damage that it could
// have found is in what it leads with.
func (c *Core) campaign() {
	c.idle = 0
	c.look()
	// A leader appends an entry at once, in its term.
	if c.dead() || !c.Clean() || c.Room() == 0 || c.Term() >= api.MaxTime || !c.enter(c.Term()+1, c.me) {
		return
	}
	c.role = Candidate
	clear(c.votes)
	c.votes[c.me] = struct{}{}
	for _, k := range c.others() {
		c.send(msg.Msg{Kind: msg.VoteAsk, To: k, Index: c.Last(), LogTerm: c.termAt(c.Last())})
	}
}

// hearVoteAsk gives the vote of a term, once.
func (c *Core) hearVoteAsk(m msg.Msg) {
	if m.Term < c.Term() {
		c.send(msg.Msg{Kind: msg.VoteGive, To: m.From})
		return
	}
	h := c.head.Head()
	if h.Vote != 0 && h.Vote != m.From || !c.Clean() || !c.votable(m.Index, m.LogTerm) {
		return
	}
	if h.Vote == 0 {
		h.Vote = m.From
		if !c.put(h) {
			return
		}
		c.idle = 0
	}
	c.send(msg.Msg{Kind: msg.VoteGive, To: m.From, Ok: true})
}

// votable reports whether a log whose last entry is this one may have all that this log has.
func (c *Core) votable(last, term int) bool {
	mine := c.termAt(c.Last())
	return term > mine || term == mine && last >= c.Last()
}

// hearVoteGive counts the votes.
func (c *Core) hearVoteGive(m msg.Msg) {
	if c.role != Candidate || m.Term != c.Term() || !m.Ok {
		return
	}
	c.votes[m.From] = struct{}{}
	if 2*len(c.votes) <= c.n {
		return
	}
	if !c.Clean() {
		c.resign()
		return
	}
	c.becomeLeader()
}

// becomeLeader lets the replica lead, and append its first entry.
func (c *Core) becomeLeader() {
	c.role, c.lead = Leader, c.me
	c.forget()
	clear(c.next)
	clear(c.match)
	for _, k := range c.others() {
		c.next[k] = c.Last() + 1
	}
	if c.appendOwn("") {
		c.feedAll()
	}
}

// appendOwn appends an entry of the leader's term.
func (c *Core) appendOwn(data string) bool {
	return c.check(c.log.Append(plog.Entry{Index: c.Last() + 1, Term: c.Term(), Data: data}))
}

// Propose appends an entry, if the replica leads, and returns its index.
func (c *Core) Propose(data string) (int, api.Errno) {
	if c.role != Leader || !c.Clean() {
		return 0, api.ErrLeader
	}
	if c.Room() < Spare {
		return 0, api.ErrFull
	}
	if len(data) > plog.MaxData {
		return 0, api.ErrLong
	}
	if !c.appendOwn(data) {
		return 0, c.err
	}
	i := c.Last()
	for _, k := range c.others() {
		// One that has not confirmed the entries before gets this one when it does.
		if c.next[k] == i {
			c.feed(k)
		}
	}
	return i, api.OK
}
