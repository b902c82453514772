package client

import (
	"fmt"
	"slices"
	"testing"

	"orchard/api"
	"orchard/core"
	"orchard/dev"
	"orchard/msg"
	"orchard/op"
	"orchard/replica"
)

// world is a set of replicas, and the messages on their way. Replica k is at index k; index 0 is not used.
type world struct {
	t    *testing.T
	name string
	n    int
	devs []*dev.Device
	reps []*replica.Replica
	off  []bool // absent
	way  []msg.Msg
}

// newWorld returns so many replicas on new devices.
func newWorld(t *testing.T, n int) *world {
	t.Helper()
	w := &world{t: t, name: fmt.Sprint(n, " replicas"), n: n}
	w.devs, w.reps, w.off = make([]*dev.Device, n+1), make([]*replica.Replica, n+1), make([]bool, n+1)
	for k := 1; k <= n; k++ {
		w.devs[k] = dev.New(core.Blocks)
		w.open(k)
	}
	return w
}

// settled returns so many replicas, one of which leads, and a client whose session is open.
func settled(t *testing.T, n, id int) (*world, *Client) {
	t.Helper()
	w := newWorld(t, n)
	c := New(id)
	w.asks(c, op.Cmd{Kind: op.Open})
	return w, c
}

// fail ends the test.
func (w *world) fail(format string, list ...any) {
	w.t.Helper()
	w.t.Fatalf("%s: %s", w.name, fmt.Sprintf(format, list...))
}

// open opens a replica.
func (w *world) open(k int) {
	w.t.Helper()
	r, e := replica.Open(w.devs[k], k, w.n)
	if e != api.OK {
		w.fail("Open of %d: %d", k, e)
	}
	w.reps[k] = r
}

// crash cuts the power of a replica, and opens it again.
func (w *world) crash(k int, fates ...dev.Fate) {
	w.t.Helper()
	w.devs[k] = w.devs[k].Crash(fates...)
	w.open(k)
}

// collect takes what a replica sends.
func (w *world) collect(k int) {
	w.way = append(w.way, w.reps[k].Out()...)
}

// tick ticks a replica.
func (w *world) tick(k int) {
	w.reps[k].Tick()
	w.collect(k)
}

// hear lets a message be heard.
func (w *world) hear(m msg.Msg) {
	if !w.off[m.To] {
		w.reps[m.To].Hear(m)
		w.collect(m.To)
	}
}

// round is one of P15.6.
func (w *world) round() {
	for k := 1; k <= w.n; k++ {
		if !w.off[k] {
			w.tick(k)
		}
	}
	for heard := 0; len(w.way) > 0 && heard < 2000; heard++ {
		m := w.way[0]
		w.way = w.way[1:]
		was := len(w.way)
		w.hear(m)
		w.way = w.way[:min(len(w.way), max(was, 400))]
	}
	w.way = nil
}

// rounds lets so many rounds pass.
func (w *world) rounds(n int) {
	for range n {
		w.round()
	}
}

// leader returns the replica that leads, and that all that are up follow; it fails if there is none within 100 rounds.
func (w *world) leader() int {
	w.t.Helper()
	for range 101 {
		for k := 1; k <= w.n; k++ {
			if r := w.reps[k]; !w.off[k] && r.Role() == core.Leader && w.follow(k) {
				return k
			}
		}
		w.round()
	}
	w.fail("nobody leads")
	return 0
}

// follow reports whether all that are up follow a replica.
func (w *world) follow(lead int) bool {
	for k := 1; k <= w.n; k++ {
		if r := w.reps[k]; !w.off[k] && (r.Lead() != lead || r.Term() != w.reps[lead].Term()) {
			return false
		}
	}
	return true
}

// other returns a replica that is up and does not lead.
func (w *world) other() int {
	w.t.Helper()
	lead := w.leader()
	for k := 1; k <= w.n; k++ {
		if k != lead && !w.off[k] {
			return k
		}
	}
	return 0
}

// well reports what P15.5 promises: all that are up are clean, follow one leader, and have committed the same log.
func (w *world) well() bool {
	for k := 1; k <= w.n; k++ {
		r := w.reps[k]
		if w.off[k] {
			continue
		}
		if r.Lead() == 0 || w.off[r.Lead()] || w.reps[r.Lead()].Role() != core.Leader || !w.follow(r.Lead()) {
			return false
		}
		if !r.Clean() || r.Last() != r.Commit() || r.Commit() != w.reps[r.Lead()].Last() {
			return false
		}
	}
	return true
}

// calls lets a client call a command.
func (w *world) calls(c *Client, cmd op.Cmd) {
	w.t.Helper()
	if e := c.Call(cmd); e != api.OK || !c.Busy() {
		w.fail("Call of %v: %d, %v", cmd, e, c.Busy())
	}
}

// tries lets a client try all replicas that are up, until it has its answer.
func (w *world) tries(c *Client) (replica.Reply, bool) {
	for k := 1; k <= w.n; k++ {
		if w.off[k] {
			continue
		}
		if a, ok := c.Try(w.reps[k]); ok {
			return a, true
		}
	}
	return replica.Reply{}, false
}

// waits lets a client try all replicas before each round until it has its answer, and returns that and the rounds.
func (w *world) waits(c *Client) (replica.Reply, int) {
	w.t.Helper()
	for i := range 301 {
		if a, ok := w.tries(c); ok {
			return a, i
		}
		w.round()
	}
	w.fail("no answer to %v", c.Cmd())
	return replica.Reply{}, 0
}

// asks lets a client call a command, and wait for the answer.
func (w *world) asks(c *Client, cmd op.Cmd) replica.Reply {
	w.t.Helper()
	w.calls(c, cmd)
	a, _ := w.waits(c)
	return a
}

// same reports whether two replies are equal; nil and empty lists are.
func same(a, b replica.Reply) bool {
	return a.E == b.E && a.Result.Same(b.Result) && a.Node == b.Node && slices.Equal(a.Kids, b.Kids) &&
		slices.Equal(a.Events, b.Events) && a.At == b.At && a.Lead == b.Lead
}

// set returns an Update that sets the root.
func set(data string) op.Cmd {
	return op.Cmd{Kind: op.Update, Ops: []op.Op{{Does: op.Set, Path: "/", Data: data, Version: -1}}}
}

// create returns an Update that creates a node with a number.
func create() op.Cmd {
	return op.Cmd{Kind: op.Update, Ops: []op.Op{{Does: op.Create, Path: "/n", Version: -1, Serial: true}}}
}
