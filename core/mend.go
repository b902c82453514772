package core

import (
	"slices"

	"orchard/api"
	"orchard/msg"
	"orchard/plog"
)

// repair asks another replica, each time the next one, for what is damaged or missing here.
func (c *Core) repair() {
	c.turn = c.turn%c.n + 1
	if c.turn == c.me {
		c.turn = c.turn%c.n + 1
	}
	c.askEntries(c.turn)
	c.askShot(c.turn)
}

// askEntries asks a replica for all entries that are damaged.
func (c *Core) askEntries(to int) {
	if c.log.Hurt() == 0 {
		return
	}
	var list []plog.Entry
	for i := c.First(); i <= c.Last(); i++ {
		if x, ok := c.read(i); !ok {
			list = append(list, plog.Entry{Index: i, Term: x.Term})
		}
	}
	for some := range slices.Chunk(list, msg.MaxEntries) {
		c.send(msg.Msg{Kind: msg.Ask, To: to, Entries: slices.Clone(some)})
	}
}

// hearAsk gives the entries that are asked for. A leader that is asked as such (Ok) gives those of its own log,
// whatever their terms are. Who asks for entries that only a snapshot covers is offered that.
func (c *Core) hearAsk(m msg.Msg) {
	leads := m.Ok && c.role == Leader && m.Term == c.Term()
	reply := msg.Msg{Kind: msg.Give, To: m.From, Ok: leads}
	covered := false
	for _, x := range m.Entries {
		covered = covered || x.Index < c.First()
		if t := c.log.Term(x.Index); t == 0 || t != x.Term && !leads {
			continue
		}
		if y, ok := c.read(x.Index); ok {
			reply.Entries = append(reply.Entries, y)
		}
	}
	if len(reply.Entries) > 0 {
		c.send(reply)
	}
	if covered {
		c.offer(m.From)
	}
}

// hearGive repairs what is damaged. An index and a term tell an entry, whoever gives it.
func (c *Core) hearGive(m msg.Msg) {
	for _, x := range m.Entries {
		if x.Term < 1 || x.Term > api.MaxTime {
			return
		}
		if c.log.Term(x.Index) != x.Term {
			continue
		}
		if _, ok := c.read(x.Index); !ok && !c.mend(x) {
			return
		}
	}
	if m.Ok && m.Term == c.Term() && c.unknown() != 0 {
		c.resolve(m)
	}
}

// unknown returns the index of the first entry whose term is not known, or 0.
func (c *Core) unknown() int {
	for i := c.First(); i <= c.Last(); i++ {
		if c.log.Term(i) == 0 {
			return i
		}
	}
	return 0
}

// above returns the index of the first entry after u whose term is known, or 0.
func (c *Core) above(u int) int {
	for i := u + 1; i <= c.Last(); i++ {
		if c.log.Term(i) != 0 {
			return i
		}
	}
	return 0
}

// settle deals with entries that are not known and that the leader cannot tell, since it did not have them, or the
// known one after them, when it sent a message; it reports whether the message can be followed. If the leader's term
// began after the log was opened, what is here beyond the leader's log is older than that term: as the leader has all
// that is committed, it can go. But a leader of the term in which the log was opened may have had it confirmed since it
// sent this message. Then another term must begin.
func (c *Core) settle(m msg.Msg) bool {
	u := c.unknown()
	if u == 0 || max(u, c.above(u)) <= m.Last {
		return true
	}
	if m.Term > c.opened {
		return c.cut(m.Last + 1)
	}
	if m.Term < api.MaxTime {
		c.enter(m.Term+1, 0)
	}
	return false
}

// askLeader asks the leader for entries that are not known here, and for a known one beside them: only together with
// that can it be told that they belong to what is after them, or before them if nothing known is after them.
func (c *Core) askLeader(to int) {
	u := c.unknown()
	from, end := u-1, min(u+msg.MaxEntries-2, c.Last())
	if k := c.above(u); k != 0 {
		from, end = max(u, k-msg.MaxEntries+1), k
	}
	m := msg.Msg{Kind: msg.Ask, To: to, Ok: true}
	for i := max(from, c.First()); i <= end; i++ {
		m.Entries = append(m.Entries, plog.Entry{Index: i, Term: c.log.Term(i)})
	}
	c.send(m)
}

// resolve lets entries that are not known be those of the leader. As long as there is one, nothing is appended, and no
// vote is given; and what is known after them stays, since it may be committed, unless the leader has another entry
// there.
func (c *Core) resolve(m msg.Msg) {
	for _, x := range m.Entries {
		if t := c.log.Term(x.Index); t != 0 && t != x.Term {
			if !c.cut(x.Index) {
				return
			}
			break
		}
	}
	u := c.unknown()
	if u == 0 {
		return
	}
	done := false
	if k := c.above(u); k != 0 {
		done = c.fillDown(m.Entries, u, k)
	} else {
		done = c.fillUp(m.Entries, u)
	}
	if done && c.unknown() != 0 {
		c.askLeader(m.From)
	}
}

// fillDown lets entries from u on that are not known be the leader's, the last one first, if the known one after them
// is the leader's: then all before it belong to it. It reports whether it did so with one.
func (c *Core) fillDown(list []plog.Entry, u, known int) bool {
	if _, ok := find(list, known); !ok {
		return false
	}
	done := false
	for i := known - 1; i >= u; i-- {
		x, ok := find(list, i)
		if !ok || !c.mend(x) {
			break
		}
		done = true
	}
	return done
}

// fillUp lets the last entries, from u on, be the leader's, the first one first, if the one before them is: what is
// committed always is.
func (c *Core) fillUp(list []plog.Entry, u int) bool {
	if _, ok := find(list, u-1); !ok && u-1 > c.commit {
		return false
	}
	done := false
	for i := u; i <= c.Last(); i++ {
		x, ok := find(list, i)
		if !ok || !c.mend(x) {
			break
		}
		done = true
	}
	return done
}

// find returns the entry with an index.
func find(list []plog.Entry, i int) (plog.Entry, bool) {
	for _, x := range list {
		if x.Index == i {
			return x, true
		}
	}
	return plog.Entry{}, false
}
