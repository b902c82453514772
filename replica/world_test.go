package replica

import (
	"fmt"
	"math/rand"
	"slices"
	"strings"
	"testing"

	"orchard/api"
	"orchard/chunk"
	"orchard/core"
	"orchard/dev"
	"orchard/head"
	"orchard/msg"
	"orchard/op"
	"orchard/plog"
	"orchard/slot"
	"orchard/state"
)

// Where on a device the snapshots, and the entries of the log, are.
const (
	shotBase = head.Blocks
	logBase  = head.Blocks + chunk.Blocks
)

// world is a set of replicas with their devices, the messages on their way and clients, and what must be true of them.
// Replica k is at index k; index 0 is not used.
type world struct {
	t       *testing.T
	r       *rand.Rand
	name    string
	n       int
	devs    []*dev.Device
	reps    []*Replica
	off     []bool // absent
	apart   []bool // hears nobody, and is not heard
	way     []msg.Msg
	most    int              // messages in one round
	kinds   map[msg.Kind]int // messages that were heard
	lazy    bool             // what is proposed is sent with the next Tick
	long    bool             // the data of nodes are long
	texts   []string         // by index: what is committed
	results []op.Result
	states  []*state.State // by index, with the results: as layer 13 returns them
	ats     []int          // by replica: At, when it was looked at last
	ahead   int            // the greatest When that was returned
	known   int            // At of the last answer to ask
	hit     map[int]bool   // was damaged at any time
	target  int            // an index that is damaged in several replicas
	clients []*client
}

// client is one that does one command at a time, again and again, until it has its result.
type client struct {
	id    int
	open  bool
	req   int
	noted int
	seen  int
	cmd   op.Cmd
	busy  bool
	ahead int  // what had been returned to anybody when it called
	gone  bool // asks for nothing any more
}

// newWorld returns so many replicas on new devices.
func newWorld(t *testing.T, n int, seed int64) *world {
	w := &world{
		t: t, r: rand.New(rand.NewSource(seed)), name: fmt.Sprintf("%d replicas, seed %d", n, seed), n: n,
		devs: make([]*dev.Device, n+1), reps: make([]*Replica, n+1), off: make([]bool, n+1), apart: make([]bool, n+1),
		texts: make([]string, 1), results: make([]op.Result, 1), states: []*state.State{state.New()},
		ats: make([]int, n+1), hit: map[int]bool{}, kinds: map[msg.Kind]int{},
	}
	for k := 1; k <= n; k++ {
		w.devs[k] = dev.New(core.Blocks)
		w.open(k)
	}
	return w
}

// fail ends the test.
func (w *world) fail(format string, list ...any) {
	w.t.Helper()
	w.t.Fatalf("%s: %s\n%s", w.name, fmt.Sprintf(format, list...), w.show())
}

// show tells what the replicas are.
func (w *world) show() string {
	var b strings.Builder
	for k := 1; k <= w.n; k++ {
		r := w.reps[k]
		fmt.Fprintf(&b, "%d: off %v role %d term %d lead %d first %d commit %d last %d room %d clean %v err %d at %d known %v wish %d hit %v\n",
			k, w.off[k], r.Role(), r.Term(), r.Lead(), r.First(), r.Commit(), r.Last(), r.Room(), r.Clean(), r.Err(),
			r.State().At(), r.State() != nil, r.Wish(), w.hit[k])
	}
	for _, c := range w.clients {
		fmt.Fprintf(&b, "client %d: %+v\n", c.id, *c)
	}
	return b.String()
}

// open opens a replica, and checks what it must be then.
func (w *world) open(k int) {
	w.t.Helper()
	r, e := Open(w.devs[k], k, w.n)
	for e == api.ErrDown && r == nil {
		w.devs[k] = w.devs[k].Crash(w.fates()...)
		r, e = Open(w.devs[k], k, w.n)
	}
	if e != api.OK {
		w.fail("Open of %d: %d", k, e)
	}
	w.reps[k], w.ats[k] = r, 0
	if s := r.State(); s != nil && s.At() != r.First()-1 {
		w.fail("State of %d is at %d after Open", k, s.At())
	}
	w.check(k)
}

// crash cuts the power of a replica, and opens it again.
func (w *world) crash(k int, fates ...dev.Fate) {
	w.t.Helper()
	w.devs[k] = w.devs[k].Crash(fates...)
	w.open(k)
}

// fates returns random ones.
func (w *world) fates() []dev.Fate {
	list := make([]dev.Fate, w.r.Intn(12))
	for i := range list {
		list[i] = dev.Fate(w.r.Intn(3))
	}
	return list
}

// block returns what the block of an entry holds, without the replica's noticing.
func (w *world) block(k, i int) (slot.Rec, bool) {
	rec, is, e := slot.Read(w.devs[k], logBase+i%core.LogSize)
	return rec, e == api.OK && is == slot.Good && rec.Kind == 2 && rec.Index == i
}

// check checks what must be true of a replica at any time.
func (w *world) check(k int) {
	w.t.Helper()
	r := w.reps[k]
	if r.Role() == core.Lost {
		if r.State() != nil {
			w.fail("%d is lost, but has a State", k)
		}
		return
	}
	if r.Err() != api.OK {
		return
	}
	w.record(k)
	s := r.State()
	if s == nil {
		if _, _, e := r.Shot(); e != api.ErrBad {
			w.fail("%d has no State, Shot: %d", k, e)
		}
		return
	}
	at := s.At()
	if at < w.ats[k] || at > r.Commit() {
		w.fail("State of %d was at %d, and is at %d", k, w.ats[k], at)
	}
	if _, ok := w.block(k, at+1); ok && at < r.Commit() {
		w.fail("%d does not apply %d", k, at+1)
	}
	if at != w.ats[k] || w.r.Intn(50) == 0 {
		w.model(k, at)
		if !s.Is(w.states[at]) {
			w.fail("%d has another State of %d", k, at)
		}
	}
	w.ats[k] = at
}

// record records the texts of what is committed.
func (w *world) record(k int) {
	w.t.Helper()
	r := w.reps[k]
	for i := r.First(); i <= r.Commit(); i++ {
		if i > len(w.texts) {
			w.fail("%d commits %d, but nobody %d", k, i, len(w.texts))
		}
		if i < len(w.texts) && w.texts[i] != unknown {
			continue
		}
		text := unknown
		if rec, ok := w.block(k, i); ok {
			text = rec.Data
		}
		if i == len(w.texts) {
			w.texts = append(w.texts, text)
		}
		w.texts[i] = text
	}
}

// unknown is the text of an entry that nobody read yet.
const unknown = "unknown"

// model applies the entries up to one to a state of layer 13.
func (w *world) model(k, to int) {
	w.t.Helper()
	for i := len(w.states); i <= to; i++ {
		if i >= len(w.texts) || w.texts[i] == unknown {
			w.fail("%d knows the state of %d, but nobody entry %d", k, to, i)
		}
		s := w.states[i-1].Clone()
		w.results = append(w.results, s.Apply(w.texts[i]))
		w.states = append(w.states, s)
	}
}

// kept reports whether for each committed entry some replica has a copy, as it would be found after a failure of the power.
func (w *world) kept() bool {
	have := make([]bool, len(w.texts))
	for k := 1; k <= w.n; k++ {
		r := w.reps[k]
		if _, e := head.Open(w.devs[k]); e != api.OK || r.Role() == core.Lost {
			continue
		}
		if s, e := chunk.Open(w.devs[k], shotBase); e == api.OK && len(s.Hurt()) == 0 {
			l, _ := s.List()
			for i := range min(l.Index+1, len(have)) {
				have[i] = true
			}
		}
		for i := r.First(); i < len(have); i++ {
			if rec, ok := w.block(k, i); ok && rec.Data == w.texts[i] {
				have[i] = true
			}
		}
	}
	return !slices.Contains(have[1:], false)
}

// collect takes what a replica sends.
func (w *world) collect(k int) {
	w.way = append(w.way, w.reps[k].Out()...)
}

// tick ticks a replica.
func (w *world) tick(k int) {
	w.t.Helper()
	r := w.reps[k]
	wish := r.Wish()
	r.Tick()
	if wish != 0 && wish <= r.State().At() && r.First() <= wish && r.Err() == api.OK {
		w.fail("%d does not store the snapshot that is wished, up to %d", k, wish)
	}
	w.check(k)
}

// hear lets a message be heard.
func (w *world) hear(m msg.Msg) {
	w.t.Helper()
	if !w.off[m.To] {
		w.kinds[m.Kind]++
		w.reps[m.To].Hear(m)
		w.check(m.To)
	}
}

// drain lets all messages be heard, and those that are sent in response.
func (w *world) drain() {
	w.t.Helper()
	for len(w.way) > 0 {
		m := w.way[0]
		w.way = w.way[1:]
		w.hear(m)
		w.collect(m.To)
	}
}

// round is one of P15.6.
func (w *world) round() {
	w.t.Helper()
	heard := 0
	for k := 1; k <= w.n; k++ {
		if !w.off[k] {
			w.tick(k)
			w.collect(k)
		}
	}
	for ; len(w.way) > 0 && heard < 2000; heard++ {
		m := w.way[0]
		w.way = w.way[1:]
		w.hear(m)
		if !w.off[m.To] {
			was := len(w.way)
			w.collect(m.To)
			w.way = w.way[:min(len(w.way), max(was, 400))]
		}
	}
	w.way = nil
	w.most = max(w.most, heard)
}

// rounds lets so many rounds pass.
func (w *world) rounds(n int) {
	w.t.Helper()
	for range n {
		w.round()
	}
}

// until lets rounds pass, until something is the case, and returns how many; it fails after the most.
func (w *world) until(most int, what string, done func() bool) int {
	w.t.Helper()
	for i := range most {
		if done() {
			return i
		}
		w.round()
	}
	if !done() {
		w.fail("not %s within %d rounds", what, most)
	}
	return most
}

// leader returns the one replica that leads all that are up, in one term, or 0.
func (w *world) leader() int {
	lead := 0
	for k := 1; k <= w.n; k++ {
		if r := w.reps[k]; !w.off[k] && r.Role() == core.Leader {
			if lead != 0 {
				return 0
			}
			lead = k
		}
	}
	for k := 1; k <= w.n && lead != 0; k++ {
		if r := w.reps[k]; !w.off[k] && (r.Lead() != lead || r.Term() != w.reps[lead].Term()) {
			return 0
		}
	}
	return lead
}

// led lets rounds pass until one leads, and returns it.
func (w *world) led() int {
	w.t.Helper()
	w.until(100, "led", func() bool { return w.leader() != 0 })
	return w.leader()
}

// well reports what P15.5 promises: all that are up are clean, follow one leader, and have committed the same log.
func (w *world) well() bool {
	lead := w.leader()
	for k := 1; k <= w.n && lead != 0; k++ {
		r := w.reps[k]
		if !w.off[k] && (!r.Clean() || r.Commit() != w.reps[lead].Last() || r.Last() != r.Commit()) {
			return false
		}
	}
	return lead != 0
}

// level reports whether all that are up know the same State.
func (w *world) level() bool {
	var one *state.State
	for k := 1; k <= w.n; k++ {
		s := w.reps[k].State()
		switch {
		case w.off[k]:
		case s == nil, one != nil && !s.Is(one):
			return false
		default:
			one = s
		}
	}
	return true
}

// ask lets a command be done, by all that are up before each round, and returns the answer and the rounds.
func (w *world) ask(c op.Cmd) (Reply, int) {
	w.t.Helper()
	for i := range 161 {
		if a, ok := w.try(c, w.known); ok {
			w.known = a.At
			return a, i
		}
		w.round()
	}
	w.fail("no answer to %v", c)
	return Reply{}, 0
}

// try asks each replica that is up once, until one answers.
func (w *world) try(c op.Cmd, least int) (Reply, bool) {
	w.t.Helper()
	for k := 1; k <= w.n; k++ {
		if w.off[k] {
			continue
		}
		a := w.do(k, c, least)
		if a.E != api.ErrLeader && a.E != api.ErrUnavail {
			return a, true
		}
	}
	return Reply{}, false
}

// do asks a replica for a command, and checks what it answers.
func (w *world) do(k int, c op.Cmd, least int) Reply {
	w.t.Helper()
	r := w.reps[k]
	a := r.Do(c, least)
	if !w.lazy {
		w.collect(k)
	}
	w.check(k)
	if r.Err() != api.OK || r.State() == nil || r.State().At() < least {
		if !same(a, Reply{E: api.ErrUnavail}) {
			w.fail("%d cannot answer, and answers %v", k, a)
		}
		return a
	}
	w.told(k, a, c.Session)
	text, _ := c.Bytes()
	if a.E == api.OK && a.Result.When != 0 {
		if i := a.Result.When; w.texts[i] != text && !w.sameRequest(i, c) || !a.Result.Same(w.results[i]) {
			w.fail("%d returns %v for %v", k, a, c)
		}
	}
	return a
}

// sameRequest reports whether an entry is of the same session and Req as a command: then it is in its place.
func (w *world) sameRequest(i int, c op.Cmd) bool {
	o, e := op.Read(w.texts[i])
	return e == api.OK && o.Session == c.Session && o.Req == c.Req
}

// told checks what all answers of a replica to a session tell.
func (w *world) told(k int, a Reply, session int) {
	w.t.Helper()
	s := w.states[a.At]
	if a.At != w.reps[k].State().At() || a.Lead != w.reps[k].Lead() || !slices.Equal(a.Events, s.Events(session)) {
		w.fail("%d tells %v", k, a)
	}
}

// get asks a replica for a node, and checks what it answers.
func (w *world) get(k, session int, s string, least int) Reply {
	w.t.Helper()
	r := w.reps[k]
	a := r.Get(session, s, least)
	w.check(k)
	if r.Err() != api.OK || r.State() == nil || r.State().At() < least {
		if !same(a, Reply{E: api.ErrUnavail}) {
			w.fail("%d cannot answer, and answers %v", k, a)
		}
		return a
	}
	w.told(k, a, session)
	node, e := w.states[a.At].Get(s)
	kids, _ := w.states[a.At].Kids(s)
	want := Reply{E: e, Node: node, Kids: kids, Events: a.Events, At: a.At, Lead: a.Lead}
	if !same(a, want) {
		w.fail("%d returns %v for %q, not %v", k, a, s, want)
	}
	return a
}

// same reports whether two answers are equal.
func same(a, b Reply) bool {
	return a.E == b.E && a.Result.Same(b.Result) && a.Node == b.Node && slices.Equal(a.Kids, b.Kids) &&
		slices.Equal(a.Events, b.Events) && a.At == b.At && a.Lead == b.Lead
}

// create returns an Update of a session that creates a node with a number.
func create(session, req int) op.Cmd {
	return op.Made(session, req, op.Op{Does: op.Create, Path: "/n", Serial: true, Version: -1})
}

// set returns an Update of a session that sets the root.
func set(session, req int, data string) op.Cmd {
	return op.Made(session, req, op.Op{Does: op.Set, Path: "/", Data: data, Version: -1})
}

// entries returns how many entries of a replica's log have the Bytes of a command.
func (w *world) entries(k int, c op.Cmd) int {
	text, _ := c.Bytes()
	count := 0
	for i := w.reps[k].First(); i <= w.reps[k].Last(); i++ {
		if x, is := w.reps[k].Entry(i); is == plog.Good && x.Data == text {
			count++
		}
	}
	return count
}
