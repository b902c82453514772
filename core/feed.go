package core

import (
	"orchard/api"
	"orchard/chunk"
	"orchard/msg"
)

// feedAll sends each other replica the entries that it needs next.
func (c *Core) feedAll() {
	for _, k := range c.others() {
		c.feed(k)
	}
}

// feed sends a replica the entries that it needs next, and what comes before them.
func (c *Core) feed(to int) {
	c.next[to] = max(c.next[to], c.First())
	prev := c.next[to] - 1
	m := msg.Msg{
		Kind: msg.Feed, To: to, Index: prev, LogTerm: c.termAt(prev),
		Last: c.Last(), Commit: c.commit,
	}
	for i := prev + 1; i <= c.Last() && len(m.Entries) < msg.MaxEntries; i++ {
		x, ok := c.read(i)
		if !ok {
			break
		}
		m.Entries = append(m.Entries, x)
	}
	c.send(m)
}

// hearFeed follows a leader.
func (c *Core) hearFeed(m msg.Msg) {
	if m.Term < c.Term() {
		c.send(msg.Msg{Kind: msg.FeedGive, To: m.From})
		return
	}
	if c.role == Leader || !inOrder(m) {
		return
	}
	c.role, c.lead, c.idle = Follower, m.From, 0
	if !c.settle(m) {
		return
	}
	if c.unknown() != 0 {
		c.askLeader(m.From)
		return
	}
	if at, ok := c.fits(m); !ok {
		c.send(msg.Msg{Kind: msg.FeedGive, To: m.From, Index: at})
		return
	}
	last := c.take(m)
	c.commit = max(c.commit, min(m.Commit, last))
	c.send(msg.Msg{Kind: msg.FeedGive, To: m.From, Ok: true, Index: c.sound(last)})
	if c.Room() == 0 && c.Last() < m.Last {
		// Then the leader's log begins later, and its snapshot makes room.
		c.wantShot(m.From, c.First(), chunk.List{}, 0)
	}
}

// inOrder reports whether the entries of a message can be those after its Index in a leader's log.
func inOrder(m msg.Msg) bool {
	for k, x := range m.Entries {
		if x.Index != m.Index+1+k || x.Term < 1 || x.Term > min(m.Term, api.MaxTime) {
			return false
		}
	}
	return true
}

// fits reports whether the log is the leader's up to what comes before a message's entries; if not, it
// returns an index up to where it may be.
func (c *Core) fits(m msg.Msg) (int, bool) {
	switch {
	case m.Index < c.First():
		return 0, true // committed, and so in each leader's log
	case m.Index > c.Last():
		return c.Last(), false
	case c.log.Term(m.Index) != m.LogTerm:
		return c.commit, false
	}
	return 0, true
}

// take lets the log become the leader's, as far as a message tells, and returns up to where it is.
func (c *Core) take(m msg.Msg) int {
	list, last := m.Entries, max(m.Index, c.First()-1)
	for len(list) > 0 && list[0].Index <= c.Last() {
		x := list[0]
		if c.has(x.Index) {
			if c.log.Term(x.Index) != x.Term {
				if !c.cut(x.Index) {
					return last
				}
				break
			}
			last = x.Index
		}
		list = list[1:]
	}
	list = list[:min(len(list), c.Room())]
	if !c.check(c.log.Append(list...)) {
		return last
	}
	return last + len(list)
}

// sound returns up to where, and at most up to an index, no entry was found damaged.
func (c *Core) sound(i int) int {
	if h := c.log.Hurt(); h != 0 {
		return min(i, h-1)
	}
	return i
}

// hearFeedGive learns how far a replica's log is the leader's.
func (c *Core) hearFeedGive(m msg.Msg) {
	if c.role != Leader || m.Term != c.Term() {
		return
	}
	was, need := c.next[m.From], min(m.Index, c.Last())+1
	if !m.Ok && need >= was {
		return // an answer to an earlier message
	}
	if m.Ok {
		c.match[m.From] = max(c.match[m.From], need-1)
		c.count()
	}
	c.next[m.From] = need
	switch {
	case need < c.First():
		c.offer(m.From)
	case !m.Ok || need > was && need <= c.Last():
		c.feed(m.From)
	}
}

// count finds what is committed: what a majority durably has, up to an entry of the leader's own term.
func (c *Core) count() {
	for i := c.sound(c.Last()); i > c.commit && c.log.Term(i) == c.Term(); i-- {
		have := 1
		for _, k := range c.others() {
			if c.match[k] >= i {
				have++
			}
		}
		if 2*have > c.n {
			c.commit = i
			return
		}
	}
}
