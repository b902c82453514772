package core

import (
	"slices"
	"strings"

	"orchard/api"
	"orchard/chunk"
	"orchard/msg"
	"orchard/sum"
)

// giveUp is how many ticks a snapshot is waited for after the last part of it arrived.
const giveUp = 20

// fetch is a snapshot that is being received; its List has the Index 0 if there is none.
type fetch struct {
	list  chunk.List
	parts map[int]part
	from  int // who gave the last part, and is asked for the next one
	idle  int // the ticks since then
}

// part is a chunk that was received.
type part struct {
	data string
}

// Shot returns the snapshot that the log continues from.
func (c *Core) Shot() (int, string, api.Errno) {
	if c.role == Lost || c.missing() {
		return 0, "", api.ErrBad
	}
	l, ok := c.shots.List()
	if !ok {
		return 0, "", api.ErrNone
	}
	data, e := c.shots.Data()
	switch e {
	case api.OK:
		return l.Index, data, api.OK
	case api.ErrBad:
		c.look()
	default:
		c.check(e)
	}
	return 0, "", e
}

// missing reports whether the snapshot that the log continues from is not there.
func (c *Core) missing() bool {
	l, _ := c.shots.List()
	return l.Index != c.First()-1
}

// chunk returns a chunk of the snapshot, or false if it is damaged.
func (c *Core) chunk(k int) (string, bool) {
	data, e := c.shots.Chunk(k)
	if e == api.ErrBad {
		c.hurt[k] = struct{}{}
		return "", false
	}
	return data, c.check(e)
}

// firstHurt returns the first damaged chunk, if there is one.
func (c *Core) firstHurt() int {
	for k := range chunk.MaxChunks {
		if _, hurt := c.hurt[k]; hurt {
			return k
		}
	}
	return 0
}

// Compact stores a snapshot, and drops the entries that it covers.
func (c *Core) Compact(index int, data string) api.Errno {
	if c.dead() {
		return api.ErrUnavail
	}
	term := c.log.Term(index)
	if term == 0 || index > c.commit {
		return api.ErrArg
	}
	e := c.shots.Put(index, term, data)
	if e == api.ErrArg {
		return e
	}
	if c.check(e) {
		clear(c.hurt)
		c.moveOn()
	}
	return c.err
}

// moveOn lets the log continue from the snapshot, if that is intact and covers more than what it continued from. The
// snapshot is durable before the head says so, and the head before the places of what it covers are used again.
func (c *Core) moveOn() {
	l, _ := c.shots.List()
	if l.Index < c.First() || len(c.hurt) > 0 || c.dead() {
		return
	}
	if t := c.log.Term(l.Index); t != 0 && t != l.Term && !c.cut(l.Index) {
		return
	}
	h := c.head.Head()
	h.First, h.Base = l.Index+1, l.Term
	if !c.put(h) {
		return
	}
	c.commit = max(c.commit, l.Index)
	if l.Index <= c.Last() {
		c.check(c.log.Drop(h.First))
		return
	}
	c.openLog()
}

// Wish returns the index from which on another replica wants a snapshot that does not exist yet, or 0.
func (c *Core) Wish() int {
	l, _ := c.shots.List()
	if c.dead() || c.wish <= l.Index {
		return 0
	}
	i := max(c.wish, c.First())
	if i > c.commit || c.log.Term(i) == 0 {
		return 0
	}
	return i
}

// askShot asks for the snapshot that is being received, or else, a replica, for what is damaged or missing of the own
// one.
func (c *Core) askShot(to int) {
	if c.fetch.list.Index != 0 {
		c.fetch.idle++
		if c.fetch.idle <= giveUp && c.useful(c.fetch.list) {
			c.askPart(c.fetch.from)
			return
		}
		c.forget()
	}
	l, _ := c.shots.List()
	switch {
	case l.Index < c.First()-1:
		c.wantShot(to, c.First()-1, chunk.List{}, 0)
	case len(c.hurt) > 0:
		c.wantShot(to, l.Index, l, c.firstHurt())
	}
}

// askPart asks for the next part of the snapshot that is being received.
func (c *Core) askPart(to int) {
	l := c.fetch.list
	l.Sums = slices.Clone(l.Sums)
	for k := range max(1, len(l.Sums)) {
		if _, ok := c.fetch.parts[k]; !ok {
			c.wantShot(to, l.Index, l, k)
			return
		}
	}
}

// wantShot asks for a part of a snapshot, or of any other one that reaches at least to an index, and further than that
// one. It tells what is committed, so that who is asked may store one.
func (c *Core) wantShot(to, index int, l chunk.List, k int) {
	c.send(msg.Msg{
		Kind: msg.ShotAsk, To: to, Index: index, List: l, Part: k,
		Commit: c.commit, LogTerm: c.termAt(c.commit),
	})
}

// hearShotAsk gives a part of the snapshot, or remembers which one is wanted.
func (c *Core) hearShotAsk(m msg.Msg) {
	c.learn(m.Commit, m.LogTerm)
	c.learn(m.List.Index, m.List.Term)
	l, ok := c.shots.List()
	switch {
	case ok && l.Same(m.List):
		c.give(m.From, m.Part)
	case ok && l.Index >= m.Index && l.Index > m.List.Index:
		c.give(m.From, 0)
	default:
		c.wish = max(c.wish, m.Index, l.Index+1)
	}
}

// offer gives the first part of the snapshot to a replica that needs entries before those of the log.
func (c *Core) offer(to int) {
	if _, ok := c.shots.List(); ok {
		c.give(to, 0)
	}
}

// give sends a part of the snapshot, unless it is damaged.
func (c *Core) give(to, k int) {
	l, _ := c.shots.List()
	m := msg.Msg{Kind: msg.ShotGive, To: to, List: l, Part: k}
	if len(l.Sums) > 0 {
		if k >= len(l.Sums) {
			return
		}
		data, ok := c.chunk(k)
		if !ok {
			return
		}
		m.Data = data
	}
	c.send(m)
}

// hearShotGive takes a part of a snapshot: of the own one, or of one that reaches further.
func (c *Core) hearShotGive(m msg.Msg) {
	c.learn(m.List.Index, m.List.Term)
	if l, ok := c.shots.List(); ok && l.Same(m.List) {
		c.mendChunk(m)
		return
	}
	if !c.useful(m.List) {
		return
	}
	if c.prefers(m) {
		c.forget()
		c.fetch.list, c.fetch.from = m.List, m.From
		c.fetch.list.Sums = slices.Clone(m.List.Sums)
	}
	if m.List.Same(c.fetch.list) {
		c.collect(m)
	}
}

// prefers reports whether the snapshot that a message gives is received instead of the one that is being received: one
// that reaches further. But the leader's goes first, since the others may have to wait for this replica.
func (c *Core) prefers(m msg.Msg) bool {
	was := c.fetch
	switch {
	case was.list.Index == 0:
		return true
	case m.From == c.lead:
		return !m.List.Same(was.list)
	}
	return was.from != c.lead && m.List.Index > was.list.Index
}

// mendChunk repairs a chunk of the snapshot.
func (c *Core) mendChunk(m msg.Msg) {
	if _, hurt := c.hurt[m.Part]; !hurt {
		return
	}
	e := c.shots.Mend(m.Part, m.Data)
	if e == api.ErrArg || !c.check(e) {
		return
	}
	delete(c.hurt, m.Part)
	if len(c.hurt) == 0 {
		c.moveOn()
		return
	}
	l, _ := c.shots.List()
	c.wantShot(m.From, l.Index, l, c.firstHurt())
}

// useful reports whether a snapshot of another replica has what is missing, damaged, or not known here, or makes room.
func (c *Core) useful(l chunk.List) bool {
	mine, _ := c.shots.List()
	if l.Index <= mine.Index || l.Index < c.First()-1 {
		return false
	}
	h := c.log.Hurt()
	return l.Index > c.commit || h != 0 && h <= l.Index || len(c.hurt) > 0 || c.missing() || c.Room() == 0
}

// collect takes a part of the snapshot that is being received; with the last one that is stored.
func (c *Core) collect(m msg.Msg) {
	l, k := c.fetch.list, m.Part
	if k < len(l.Sums) {
		if _, ok := c.fetch.parts[k]; ok || sum.Of(m.Data) != l.Sums[k] {
			return
		}
		c.fetch.parts[k] = part{strings.Clone(m.Data)}
	}
	c.fetch.from, c.fetch.idle = m.From, 0
	if len(c.fetch.parts) < len(l.Sums) {
		c.askPart(m.From)
		return
	}
	c.store()
}

// store stores the snapshot that was received.
func (c *Core) store() {
	l := c.fetch.list
	var b strings.Builder
	for k := range l.Sums {
		b.WriteString(c.fetch.parts[k].data)
	}
	c.forget()
	data := b.String()
	if !chunk.Of(l.Index, l.Term, data).Same(l) {
		return
	}
	e := c.shots.Put(l.Index, l.Term, data)
	if e == api.ErrArg || !c.check(e) {
		return
	}
	clear(c.hurt)
	c.moveOn()
	if c.lead != 0 && c.lead != c.me {
		// What is committed is in the leader's log, so that it can go on from there at once.
		c.send(msg.Msg{Kind: msg.FeedGive, To: c.lead, Ok: true, Index: c.sound(c.commit)})
	}
}

// forget ends that a snapshot is received.
func (c *Core) forget() {
	c.fetch.list, c.fetch.from, c.fetch.idle = chunk.List{}, 0, 0
	clear(c.fetch.parts)
}
