package core

import (
	"fmt"
	"math/rand"
	"slices"
	"strings"
	"testing"

	"orchard/api"
	"orchard/chunk"
	"orchard/dev"
	"orchard/head"
	"orchard/msg"
	"orchard/slot"
)

// fact is what is known of a committed entry.
type fact struct {
	term int
	text string
	told bool // the text is known
	at   int  // in which term it was found to be committed
}

// world is a set of replicas with their devices and the messages on their way, and what must be true of them.
// Replica k is at index k; index 0 is not used.
type world struct {
	t       *testing.T
	r       *rand.Rand
	name    string
	n       int
	devs    []*dev.Device
	cores   []*Core
	off     []bool // absent
	apart   []bool // hears nobody, and is not heard
	way     []msg.Msg
	facts   []fact // by index, from 1 on
	leaders map[int]int
	terms   []int
	commits []int
	hit     map[int]bool // was damaged at any time
	void    bool         // for some committed entry there is no copy any more
	seq     int
	target  int // an index that is damaged in several replicas
	most    int // messages in one round
}

// newWorld returns so many replicas on new devices.
func newWorld(t *testing.T, n int, seed int64) *world {
	w := &world{
		t: t, r: rand.New(rand.NewSource(seed)), name: fmt.Sprintf("%d replicas, seed %d", n, seed), n: n,
		devs: make([]*dev.Device, n+1), cores: make([]*Core, n+1), off: make([]bool, n+1), apart: make([]bool, n+1),
		facts: make([]fact, 1), leaders: map[int]int{}, terms: make([]int, n+1), commits: make([]int, n+1),
		hit: map[int]bool{},
	}
	for k := 1; k <= n; k++ {
		w.devs[k] = dev.New(Blocks)
		w.open(k)
	}
	return w
}

// fail ends the test.
func (w *world) fail(format string, list ...any) {
	w.t.Helper()
	w.t.Fatalf("%s: %s\n%s", w.name, fmt.Sprintf(format, list...), w.show())
}

// show tells what the replicas are.
func (w *world) show() string {
	var b strings.Builder
	for k := 1; k <= w.n; k++ {
		c := w.cores[k]
		l, _ := c.shots.List()
		fmt.Fprintf(&b, "%d: off %v role %d term %d lead %d first %d commit %d last %d room %d clean %v err %d hurt %d unknown %d chunks %v shot %d idle %d hit %v wish %d\n",
			k, w.off[k], c.Role(), c.Term(), c.Lead(), c.First(), c.Commit(), c.Last(), c.Room(), c.Clean(), c.Err(),
			c.log.Hurt(), c.unknown(), c.hurt, l.Index, c.idle, w.hit[k], c.Wish())
	}
	return b.String()
}

// open opens a replica, and checks what it must be then.
func (w *world) open(k int) {
	c, e := Open(w.devs[k], k, w.n)
	for e == api.ErrDown && c == nil {
		w.devs[k] = w.devs[k].Crash(w.fates()...)
		c, e = Open(w.devs[k], k, w.n)
	}
	if e != api.OK {
		w.fail("Open of %d: %d", k, e)
	}
	w.cores[k] = c
	if c.Role() == Lost {
		if c.Term() != 0 || c.Commit() != 0 || c.Last() != 0 || c.Room() != 0 || c.First() != 1 || c.Clean() {
			w.fail("%d is lost, and more", k)
		}
		return
	}
	if c.Role() != Follower || c.Commit() != c.First()-1 || c.Err() != api.OK {
		w.fail("after Open of %d", k)
	}
	w.commits[k] = c.Commit()
	w.check(k)
}

// crash cuts the power of a replica, and opens it again.
func (w *world) crash(k int, fates ...dev.Fate) {
	w.devs[k] = w.devs[k].Crash(fates...)
	w.open(k)
}

// fates returns random ones.
func (w *world) fates() []dev.Fate {
	list := make([]dev.Fate, w.r.Intn(12))
	for i := range list {
		list[i] = dev.Fate(w.r.Intn(3))
	}
	return list
}

// block returns what the block of an entry holds, without the replica's noticing.
func (w *world) block(k, i int) (slot.Rec, bool) {
	rec, state, e := slot.Read(w.devs[k], logBase+i%LogSize)
	return rec, e == api.OK && state == slot.Good && rec.Kind == 2 && rec.Index == i
}

// check checks what must be true of a replica at any time.
func (w *world) check(k int) {
	w.t.Helper()
	c := w.cores[k]
	if c.Role() == Lost {
		return
	}
	if c.Err() != api.OK {
		if len(c.Out()) > 0 {
			w.fail("%d sends after an error", k)
		}
		return
	}
	if c.Term() < w.terms[k] || c.Commit() < w.commits[k] || c.Commit() < c.First()-1 || c.Commit() > c.Last() {
		w.fail("%d: Term was %d, Commit %d", k, w.terms[k], w.commits[k])
	}
	w.terms[k], w.commits[k] = c.Term(), c.Commit()
	w.record(k)
	if c.Role() != Leader {
		return
	}
	if x, ok := w.leaders[c.Term()]; ok && x != k || c.Lead() != k {
		w.fail("%d leads in term %d, as does %d", k, c.Term(), x)
	}
	w.leaders[c.Term()] = k
	if w.void {
		return
	}
	for i := c.First(); i < len(w.facts); i++ {
		if c.Term() >= w.facts[i].at && c.log.Term(i) != w.facts[i].term {
			w.fail("%d leads without entry %d", k, i)
		}
	}
}

// record records what is committed, and compares it with what was.
func (w *world) record(k int) {
	w.t.Helper()
	c := w.cores[k]
	for i := c.First(); i <= c.Commit(); i++ {
		term := c.log.Term(i)
		if i >= len(w.facts) {
			if term == 0 || i > len(w.facts) {
				w.fail("%d commits %d, with a term that it does not know", k, i)
			}
			w.facts = append(w.facts, fact{term: term, at: c.Term()})
		}
		if term != 0 && term != w.facts[i].term && !w.void {
			w.fail("%d: entry %d has the term %d, not %d", k, i, term, w.facts[i].term)
		}
	}
}

// texts compares the texts of what is committed, and the snapshot, with what was.
func (w *world) texts(k int) {
	w.t.Helper()
	c := w.cores[k]
	if c.dead() {
		return
	}
	for i := c.First(); i <= c.Commit(); i++ {
		rec, ok := w.block(k, i)
		if !ok || w.void {
			continue
		}
		f := &w.facts[i]
		if rec.Term != f.term || f.told && rec.Data != f.text {
			w.fail("%d: entry %d is %v, not %v", k, i, rec, *f)
		}
		f.text, f.told = rec.Data, true
	}
	i, data, e := c.Shot()
	if e != api.OK && e != api.ErrNone && e != api.ErrBad {
		w.fail("%d: Shot: %d", k, e)
	}
	if e == api.OK && (i != c.First()-1 || data != w.shot(i)) {
		w.fail("%d: Shot %d, %.50s", k, i, data)
	}
}

// shot returns the snapshot up to an entry.
func (w *world) shot(i int) string {
	part := fmt.Sprintf("state %d in %d ", i, w.facts[i].term)
	return strings.Repeat(part, (i*i)%90)
}

// kept reports whether for each committed entry some replica has a copy, as it would be found after a failure of the power.
func (w *world) kept() bool {
	have := make([]bool, len(w.facts))
	for k := 1; k <= w.n; k++ {
		c := w.cores[k]
		if _, e := head.Open(w.devs[k]); e != api.OK || c.Role() == Lost {
			continue
		}
		if s, e := chunk.Open(w.devs[k], shotBase); e == api.OK && len(s.Hurt()) == 0 {
			l, _ := s.List()
			for i := range min(l.Index+1, len(have)) {
				have[i] = true
			}
		}
		for i := c.First(); i < len(have); i++ {
			if rec, ok := w.block(k, i); ok && rec.Term == w.facts[i].term {
				have[i] = true
			}
		}
	}
	return !slices.Contains(have[1:], false)
}

// collect takes what a replica sends.
func (w *world) collect(k int) {
	for _, m := range w.cores[k].Out() {
		if !m.Right() || m.From != k || m.To == k || m.To < 1 || m.To > w.n {
			w.fail("%d sends %v", k, m)
		}
		w.way = append(w.way, m)
	}
}

// tick ticks a replica.
func (w *world) tick(k int) {
	c := w.cores[k]
	leads := c.Role() == Leader && !c.Clean()
	c.Tick()
	if leads && c.Role() == Leader {
		w.fail("%d still leads", k)
	}
	w.check(k)
}

// hear lets a message be heard.
func (w *world) hear(m msg.Msg) {
	if w.off[m.To] {
		return
	}
	c := w.cores[m.To]
	vote := m.Kind == msg.VoteAsk && c.Clean()
	c.Hear(m)
	w.check(m.To)
	for _, o := range c.out {
		if m.Kind == msg.VoteAsk && o.Kind == msg.VoteGive && o.Ok && !vote {
			w.fail("%d voted", m.To)
		}
	}
}

// drain lets all messages be heard, and those that are sent in response.
func (w *world) drain() {
	for len(w.way) > 0 {
		m := w.way[0]
		w.way = w.way[1:]
		w.hear(m)
		w.collect(m.To)
	}
}

// round is one of P15.6. It stores snapshots where they are wanted.
func (w *world) round() {
	heard := 0
	for k := 1; k <= w.n; k++ {
		if !w.off[k] {
			w.tick(k)
			w.collect(k)
		}
	}
	for len(w.way) > 0 {
		m := w.way[0]
		w.way = w.way[1:]
		if heard == 2000 {
			w.way = nil
			break
		}
		heard++
		w.hear(m)
		if !w.off[m.To] {
			was := len(w.way)
			w.collect(m.To)
			if len(w.way) > 400 {
				w.way = w.way[:max(was, 400)]
			}
		}
	}
	w.most = max(w.most, heard)
	w.wishes()
}

// wishes stores snapshots where they are wanted.
func (w *world) wishes() {
	for k := 1; k <= w.n; k++ {
		c := w.cores[k]
		if i := c.Wish(); i != 0 && !w.off[k] {
			if e := c.Compact(i, w.shot(i)); e != api.OK {
				w.fail("%d wishes %d: %d", k, i, e)
			}
			w.check(k)
		}
	}
}

// leader returns the one replica that leads all that are up, in one term, or 0.
func (w *world) leader() int {
	lead := 0
	for k := 1; k <= w.n; k++ {
		if c := w.cores[k]; !w.off[k] && c.Role() == Leader {
			if lead != 0 {
				return 0
			}
			lead = k
		}
	}
	for k := 1; k <= w.n && lead != 0; k++ {
		if c := w.cores[k]; !w.off[k] && (c.Lead() != lead || c.Term() != w.cores[lead].Term()) {
			return 0
		}
	}
	return lead
}

// level reports whether all that are up are clean, follow one leader, and have committed the same log.
func (w *world) level() bool {
	lead := w.leader()
	if lead == 0 {
		return false
	}
	for k := 1; k <= w.n; k++ {
		c := w.cores[k]
		if !w.off[k] && (!c.Clean() || c.Commit() != w.cores[lead].Last() || c.Last() != c.Commit()) {
			return false
		}
	}
	return true
}

// until lets rounds pass, at least one, until something is the case, and returns how many; it fails after the most.
func (w *world) until(most int, what string, done func() bool) int {
	w.t.Helper()
	for i := range most {
		w.round()
		if done() {
			return i + 1
		}
	}
	w.fail("not %s within %d rounds", what, most)
	return 0
}

// propose lets a replica propose an entry of its own.
func (w *world) propose(k int) (int, api.Errno) {
	w.seq++
	return w.cores[k].Propose(fmt.Sprintf("entry %d", w.seq))
}

// shotBlock returns the block of a copy of the List, or of chunk n-2, of an area.
func shotBlock(area, n int) int {
	return shotBase + area*(2+chunk.MaxChunks) + n
}
