package cluster

import (
	"fmt"
	"reflect"
	"slices"
	"testing"

	"orchard/api"
	"orchard/client"
	"orchard/core"
	"orchard/dev"
	"orchard/msg"
	"orchard/op"
	"orchard/replica"
)

// letter is a message in transit.
type letter struct {
	due int
	m   msg.Msg
}

// plain is layer 19 by the letter, put together anew from the layers below, with a network of its own.
type plain struct {
	n, now  int
	devs    map[int]*dev.Device
	reps    map[int]*replica.Replica
	clients map[int]*client.Client
	way     []letter // in the order of sending
	sent    int
	lossy   int
}

func newPlain(n, clients int) *plain {
	p := &plain{n: n, devs: map[int]*dev.Device{}, reps: map[int]*replica.Replica{}, clients: map[int]*client.Client{}}
	for k := 1; k <= n; k++ {
		p.devs[k] = dev.New(core.Blocks)
		p.reps[k], _ = replica.Open(p.devs[k], k, n)
	}
	for id := 1; id <= clients; id++ {
		p.clients[id] = client.New(id)
	}
	return p
}

func (p *plain) collect(k, delay int) {
	for _, m := range p.reps[k].Out() {
		p.sent++
		if p.lossy > 0 && p.sent%p.lossy == 0 || len(p.way) >= 2000 {
			continue
		}
		p.way = append(p.way, letter{p.now + min(max(delay, 0), 1<<20), m})
	}
}

func (p *plain) tick(k, delay int) {
	if p.reps[k] == nil {
		return
	}
	p.reps[k].Tick()
	p.collect(k, delay)
}

func (p *plain) next() (msg.Msg, bool) {
	first := -1
	for i, l := range p.way {
		if l.due <= p.now && (first < 0 || l.due < p.way[first].due) {
			first = i
		}
	}
	if first < 0 {
		return msg.Msg{}, false
	}
	m := p.way[first].m
	p.way = slices.Delete(p.way, first, first+1)
	return m, true
}

func (p *plain) deliver(most, delay int) int {
	for i := 0; i < most; i++ {
		m, ok := p.next()
		if !ok {
			return i
		}
		p.reps[m.To].Hear(m)
		p.collect(m.To, delay)
	}
	return max(most, 0)
}

func (p *plain) crash(k int, fates ...dev.Fate) api.Errno {
	if p.reps[k] == nil {
		return api.ErrArg
	}
	p.devs[k] = p.devs[k].Crash(fates...)
	r, e := replica.Open(p.devs[k], k, p.n)
	p.reps[k] = r
	return e
}

func (p *plain) call(id int, cmd op.Cmd) api.Errno {
	if p.clients[id] == nil {
		return api.ErrArg
	}
	return p.clients[id].Call(cmd)
}

func (p *plain) try(id, k int) (replica.Reply, bool) {
	if p.clients[id] == nil || p.reps[k] == nil {
		return replica.Reply{E: api.ErrArg}, false
	}
	a, ok := p.clients[id].Try(p.reps[k])
	p.collect(k, 0)
	return a, ok
}

func (p *plain) read(id, k int, s string) replica.Reply {
	if p.clients[id] == nil || p.reps[k] == nil {
		return replica.Reply{E: api.ErrArg}
	}
	return p.clients[id].Read(p.reps[k], s)
}

func (p *plain) round() {
	p.now++
	for k := 1; k <= p.n; k++ {
		p.tick(k, 0)
	}
	p.deliver(4000, 0)
}

func (p *plain) rest(rounds int) api.Errno {
	p.lossy = 0
	for k := 1; k <= p.n; k++ {
		if p.reps[k].Err() != api.OK || p.devs[k].Down() {
			if e := p.crash(k); e != api.OK {
				return e
			}
		}
	}
	for k := 1; k <= p.n; k++ {
		p.devs[k].Fall(1 << 60)
	}
	for k := 1; k <= p.n; k++ {
		p.reps[k].Scrub()
	}
	for i := 0; i < rounds; i++ {
		p.round()
		for id := 1; id <= len(p.clients); id++ {
			for k := 1; k <= p.n; k++ {
				if p.clients[id].Busy() {
					p.try(id, k)
				}
			}
		}
	}
	return api.OK
}

func (p *plain) leader() int {
	lead := 0
	for k := 1; k <= p.n; k++ {
		all := p.reps[k].Role() == core.Leader
		for o := 1; o <= p.n; o++ {
			all = all && p.reps[o].Lead() == k
		}
		if all {
			lead = k
		}
	}
	return lead
}

func (p *plain) level() bool {
	for k := 1; k <= p.n; k++ {
		if !p.reps[k].Clean() || p.reps[k].State() == nil || p.reps[k].State().Bytes() != p.reps[1].State().Bytes() {
			return false
		}
	}
	return true
}

// twin is a Cluster and what it must be.
type twin struct {
	*testing.T
	name string
	c    *Cluster
	p    *plain
}

func newTwin(t *testing.T, n, clients int) *twin {
	t.Helper()
	c, e := New(n, clients)
	if e != api.OK {
		t.Fatal(e)
	}
	w := &twin{t, fmt.Sprint(n, " replicas, ", clients, " clients"), c, newPlain(n, clients)}
	w.equal()
	return w
}

// fails ends the test.
func (w *twin) fails(format string, list ...any) {
	w.Helper()
	w.Fatalf("%s: %s", w.name, fmt.Sprintf(format, list...))
}

// facts is what can be seen of a replica.
func facts(r *replica.Replica) string {
	i, text, e := 0, "", api.OK
	if r.Err() == api.OK {
		i, text, e = r.Shot()
	}
	return fmt.Sprint(r.Role(), r.Term(), r.Lead(), r.Commit(), r.First(), r.Last(), r.Room(), r.Wish(), r.Clean(), r.Err(),
		r.State() == nil, r.State().Bytes(), i, text, e)
}

// sameBlocks reports whether two devices have the same blocks, and power.
func sameBlocks(a, b *dev.Device) bool {
	if a.Size() != b.Size() || a.Down() != b.Down() {
		return false
	}
	for k := range a.Size() {
		s, e := a.Read(k)
		if want, error := b.Read(k); s != want || e != error {
			return false
		}
	}
	return true
}

// equal fails unless both are the same, whatever is asked; but what is in transit shows only by its number.
func (w *twin) equal() {
	w.Helper()
	c, p := w.c, w.p
	if c.Size() != p.n || c.Now() != p.now || c.Len() != len(p.way) {
		w.fails("Size %d, Now %d, Len %d, not %d, %d, %d", c.Size(), c.Now(), c.Len(), p.n, p.now, len(p.way))
	}
	for k := 1; k <= p.n; k++ {
		if got, want := facts(c.Replica(k)), facts(p.reps[k]); got != want {
			w.fails("replica %d is %q, not %q", k, got, want)
		}
		if !sameBlocks(c.Device(k), p.devs[k]) {
			w.fails("the device of %d", k)
		}
	}
	for id := 1; id <= len(p.clients); id++ {
		if a, b := c.Client(id), p.clients[id]; !reflect.DeepEqual(a, b) {
			w.fails("client %d is %+v, not %+v", id, a, b)
		}
	}
	if c.Leader() != p.leader() || c.Level() != p.level() {
		w.fails("Leader %d, Level %v, not %d, %v", c.Leader(), c.Level(), p.leader(), p.level())
	}
}

// drained fails unless the same is in transit, due at the same time; it removes all of it.
func (w *twin) drained() {
	w.Helper()
	for w.c.Len() > 0 {
		a, is := w.c.Next()
		b, want := w.p.next()
		if is != want || !a.Same(b) {
			w.fails("%v, %v is due at %d, not %v, %v", a, is, w.c.Now(), b, want)
		}
		if !is {
			w.c.Pass()
			w.p.now++
		}
	}
	w.equal()
}

func (w *twin) tick(k, delay int) {
	w.c.Tick(k, delay)
	w.p.tick(k, delay)
}

func (w *twin) pass() {
	w.c.Pass()
	w.p.now++
}

func (w *twin) lossy(n int) {
	w.c.Lossy(n)
	w.p.lossy = n
}

func (w *twin) clear() {
	w.c.Clear()
	w.p.way = nil
}

func (w *twin) deliver(most, delay int) int {
	w.Helper()
	a, b := w.c.Deliver(most, delay), w.p.deliver(most, delay)
	if a != b {
		w.fails("Deliver(%d, %d): %d, not %d", most, delay, a, b)
	}
	return a
}

func (w *twin) crash(k int, fates ...dev.Fate) {
	w.Helper()
	if a, b := w.c.Crash(k, fates...), w.p.crash(k, fates...); a != b {
		w.fails("Crash(%d): %d, not %d", k, a, b)
	}
}

func (w *twin) call(id int, cmd op.Cmd) api.Errno {
	w.Helper()
	a, b := w.c.Call(id, cmd), w.p.call(id, cmd)
	if a != b {
		w.fails("Call(%d, %v): %d, not %d", id, cmd, a, b)
	}
	return a
}

func (w *twin) try(id, k int) (replica.Reply, bool) {
	w.Helper()
	a, ok := w.c.Try(id, k)
	b, want := w.p.try(id, k)
	if !reflect.DeepEqual(a, b) || ok != want {
		w.fails("Try(%d, %d): %v, %v, not %v, %v", id, k, a, ok, b, want)
	}
	return a, ok
}

func (w *twin) read(id, k int, s string) replica.Reply {
	w.Helper()
	a, b := w.c.Read(id, k, s), w.p.read(id, k, s)
	if !reflect.DeepEqual(a, b) {
		w.fails("Read(%d, %d, %q): %v, not %v", id, k, s, a, b)
	}
	return a
}

func (w *twin) round() {
	w.c.Round()
	w.p.round()
}

func (w *twin) rest(rounds int) {
	w.Helper()
	if a, b := w.c.Rest(rounds), w.p.rest(rounds); a != b || a != api.OK {
		w.fails("Rest(%d): %d, not %d", rounds, a, b)
	}
}

// device lets the same become of both devices.
func (w *twin) device(k int, f func(*dev.Device)) {
	f(w.c.Device(k))
	f(w.p.devs[k])
}

// rested returns a cluster with a leader.
func rested(t *testing.T, n, clients int) *Cluster {
	t.Helper()
	c, e := New(n, clients)
	if e != api.OK || c.Rest(100) != api.OK || c.Leader() == 0 || !c.Level() {
		t.Fatal(e, c.Leader(), c.Level())
	}
	return c
}

// asks lets a client call a command, and tries the leader until it has the answer.
func asks(t *testing.T, c *Cluster, id int, cmd op.Cmd) replica.Reply {
	t.Helper()
	if e := c.Call(id, cmd); e != api.OK {
		t.Fatal(e)
	}
	for range 20 {
		if a, ok := c.Try(id, c.Leader()); ok {
			return a
		}
		c.Round()
	}
	t.Fatal("no answer to", cmd)
	return replica.Reply{}
}

// open is the command that opens a session.
func open() op.Cmd { return op.Cmd{Kind: op.Open} }

// set returns an Update that sets the root.
func set(data string) op.Cmd {
	return op.Cmd{Kind: op.Update, Ops: []op.Op{{Does: op.Set, Path: "/", Data: data, Version: -1}}}
}
