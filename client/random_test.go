package client

import (
	"fmt"
	"math/rand"
	"slices"
	"strings"
	"testing"

	"orchard/api"
	"orchard/dev"
	"orchard/op"
	"orchard/replica"
	"orchard/watch"
)

// plain is layer 18 by the letter: the history of a client, from which everything follows.
type plain struct {
	id      int
	called  []op.Cmd        // without error
	answers []replica.Reply // one of each command, but of the last one if it is Busy
	told    []replica.Reply // all that are not ErrUnavail
}

func (p *plain) busy() bool { return len(p.called) > len(p.answers) }

func (p *plain) cmd() op.Cmd {
	if len(p.called) == 0 {
		return op.Cmd{}
	}
	return p.called[len(p.called)-1]
}

func (p *plain) seen() (at int) {
	for _, a := range p.told {
		at = max(at, a.At)
	}
	return at
}

func (p *plain) events() (list []watch.Event) {
	for _, a := range p.told {
		for _, e := range a.Events {
			if len(list) == 0 && e.No > 0 || len(list) > 0 && e.No > list[len(list)-1].No {
				list = append(list, e)
			}
		}
	}
	return list
}

func (p *plain) noted() int {
	list := p.events()
	if len(list) == 0 {
		return 0
	}
	return list[len(list)-1].No
}

func (p *plain) call(cmd op.Cmd) api.Errno {
	if p.busy() || !slices.Contains([]op.Kind{op.Open, op.Close, op.Update, op.Watch, op.Sync}, cmd.Kind) {
		return api.ErrArg
	}
	last := 0
	for i, c := range p.called {
		if c.Kind == op.Open && cmd.Kind == op.Open && p.answers[i].E == api.OK {
			return api.ErrArg
		}
		if c.Kind != op.Open {
			last = c.Req
		}
	}
	cmd.Session = p.id
	if cmd.Kind == op.Open {
		cmd.Req, cmd.Noted = 0, 0
	} else {
		cmd.Req, cmd.Noted = last+1, p.noted()
	}
	_, e := cmd.Bytes()
	if e == api.OK {
		cmd.Ops = slices.Clone(cmd.Ops)
		p.called = append(p.called, cmd)
	}
	return e
}

func (p *plain) tell(a replica.Reply) replica.Reply {
	if a.E != api.ErrUnavail {
		p.told = append(p.told, a)
	}
	return a
}

func (p *plain) try(r *replica.Replica) (replica.Reply, bool) {
	if !p.busy() {
		return replica.Reply{E: api.ErrArg}, false
	}
	a := p.tell(r.Do(p.cmd(), p.seen()))
	if a.E == api.ErrUnavail || a.E == api.ErrLeader {
		return a, false
	}
	p.answers = append(p.answers, a)
	return a, true
}

// twins are two worlds in which the same happens: in the first one there are Clients, in the second one plain ones.
type twins struct {
	*testing.T
	name    string
	r       *rand.Rand
	a, b    *world
	clients []*Client
	plains  []*plain
	count   map[string]int // of what happened
}

// equal fails unless a client is what the plain one is.
func (w *twins) equal(i int) {
	w.Helper()
	c, p := w.clients[i], w.plains[i]
	if c.ID != p.id || c.Seen() != p.seen() || c.Noted() != p.noted() || c.Busy() != p.busy() || !c.Cmd().Same(p.cmd()) ||
		!slices.Equal(c.Events(), p.events()) {
		w.Fatalf("%s: %+v, not %+v", w.name, c, p)
	}
}

// calls lets client i call a random command.
func (w *twins) calls(i int) {
	w.Helper()
	cmd := w.command()
	e, want := w.clients[i].Call(cmd), w.plains[i].call(cmd)
	if e != want {
		w.Fatalf("%s: Call of %v: %d, not %d", w.name, cmd, e, want)
	}
	w.count[fmt.Sprint("call ", e)]++
	for k := range cmd.Ops {
		cmd.Ops[k] = op.Op{Data: "spoiled"}
	}
	w.equal(i)
}

// tries lets client i try replica k.
func (w *twins) tries(i, k int) {
	w.Helper()
	a, ok := w.clients[i].Try(w.a.reps[k])
	b, want := w.plains[i].try(w.b.reps[k])
	if !same(a, b) || ok != want {
		w.Fatalf("%s: Try: %v, %v, not %v, %v", w.name, a, ok, b, want)
	}
	w.count[fmt.Sprint("try ", a.E)]++
	w.a.collect(k)
	w.b.collect(k)
	w.equal(i)
}

// reads lets client i read from replica k.
func (w *twins) reads(i, k int) {
	w.Helper()
	s := w.path()
	p := w.plains[i]
	a, b := w.clients[i].Read(w.a.reps[k], s), p.tell(w.b.reps[k].Get(p.id, s, p.seen()))
	if !same(a, b) {
		w.Fatalf("%s: Read of %s: %v, not %v", w.name, s, a, b)
	}
	w.count[fmt.Sprint("read ", a.E)]++
	w.equal(i)
}

// path returns a random one, or what is none.
func (w *twins) path() string {
	return []string{"/", "/a", "/b", "/a/c", "/n0000000000", "/n0000000003", "", "a/"}[w.r.Intn(8)]
}

// command returns a random one, some of which cannot be called.
func (w *twins) command() op.Cmd {
	cmd := op.Cmd{Kind: op.Update, Session: w.r.Intn(9) - 2, Req: w.r.Intn(9) - 2, Noted: w.r.Intn(9) - 2}
	for range w.r.Intn(4) {
		cmd.Ops = append(cmd.Ops, op.Op{
			Does: op.Does(1 + w.r.Intn(4)), Path: w.path(), Data: fmt.Sprint(w.r.Intn(100)), Version: w.r.Intn(4) - 1,
			Serial: w.r.Intn(4) == 0, Own: w.r.Intn(4) == 0,
		})
	}
	switch p := w.r.Intn(40); {
	case p < 12:
		cmd.Kind = op.Open
	case p < 18:
		cmd.Kind, cmd.Path, cmd.Kids, cmd.Once = op.Watch, w.path(), w.r.Intn(2) == 0, w.r.Intn(4) == 0
	case p < 20:
		cmd.Kind, cmd.Path = op.Watch, "/"
	case p < 22:
		cmd.Kind = op.Sync
	case p < 23:
		cmd.Kind = op.Kind(w.r.Intn(12) - 3)
	case p < 24:
		cmd = tooLong()
	case p < 25:
		cmd.Ops = append(cmd.Ops, op.Op{})
	case p < 26:
		cmd.Path = strings.Repeat("x", 61)
	case p < 32:
		cmd.Ops = set("x").Ops
	}
	return cmd
}

// both lets the same happen in both worlds.
func (w *twins) both(f func(*world)) {
	f(w.a)
	f(w.b)
}

// act lets one random thing happen.
func (w *twins) act() {
	w.Helper()
	i, k := w.r.Intn(len(w.clients)), 1+w.r.Intn(w.a.n)
	switch p := w.r.Intn(1000); {
	case p < 4:
		fates := make([]dev.Fate, w.r.Intn(8))
		for i := range fates {
			fates[i] = dev.Fate(w.r.Intn(3))
		}
		w.both(func(w *world) { w.crash(k, fates...) })
	case p < 150:
		w.calls(i)
	case p < 300:
		w.tries(i, k)
	case p < 400:
		w.reads(i, k)
	case p < 600:
		w.both(func(w *world) { w.tick(k) })
	case len(w.a.way) > 0:
		w.deliver()
	}
}

// deliver lets a random message be heard, or not, or twice.
func (w *twins) deliver() {
	w.Helper()
	if len(w.a.way) != len(w.b.way) {
		w.Fatalf("%s: not the same messages", w.name)
	}
	i := w.r.Intn(len(w.a.way))
	if w.r.Intn(3) > 0 {
		i = min(i, w.r.Intn(5))
	}
	p := w.r.Intn(100)
	w.both(func(w *world) {
		m := w.way[i]
		if p >= 5 {
			w.way = slices.Delete(w.way, i, i+1)
		}
		if p < 90 {
			w.hear(m)
		}
		w.way = w.way[max(0, len(w.way)-300):]
	})
}

// settle lets rounds pass until all clients are answered but those that cannot be, which is in time (P18.3).
func (w *twins) settle() {
	w.Helper()
	w.both(func(w *world) { w.way = nil })
	for rounds := range 161 {
		busy := false
		for i, c := range w.clients {
			for k := 1; k <= w.a.n && c.Busy(); k++ {
				w.tries(i, k)
			}
			busy = busy || c.Busy() && c.ID != 0
		}
		if !busy {
			w.count["rounds"] = max(w.count["rounds"], rounds)
			return
		}
		w.both((*world).round)
	}
	w.Fatalf("%s: not answered", w.name)
}

// Whatever happens, a Client is what follows by the letter from its history, and does to the replicas what that does.
func TestRandom(t *testing.T) {
	count := map[string]int{}
	for seed := range 60 {
		n := 3 + seed%3*2
		w := &twins{T: t, name: fmt.Sprint("seed ", seed), r: rand.New(rand.NewSource(int64(seed))),
			a: newWorld(t, n), b: newWorld(t, n), count: count}
		for _, id := range []int{1, 2, 3, 4, 5, 2, 0, -1} {
			w.clients, w.plains = append(w.clients, New(id)), append(w.plains, &plain{id: id})
		}
		for range 4 {
			for range 2000 {
				w.act()
			}
			w.settle()
		}
		for _, c := range w.clients {
			count["events"] += len(c.Events())
		}
		for k := 1; k <= n; k++ {
			if a, b := w.a.reps[k].State(), w.b.reps[k].State(); a.Bytes() != b.Bytes() {
				t.Fatalf("%s: not the same States", w.name)
			}
		}
	}
	for _, e := range []api.Errno{api.OK, api.ErrArg, api.ErrLeader, api.ErrUnavail, api.ErrSession, api.ErrOld} {
		if count[fmt.Sprint("try ", e)] == 0 {
			t.Error("no Try is", e)
		}
	}
	if count["events"] < 100 {
		t.Error("too few events")
	}
	t.Log(count)
}
