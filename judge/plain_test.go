package judge

import (
	"fmt"
	"reflect"
	"slices"
	"testing"

	"orchard/api"
	"orchard/op"
	"orchard/replica"
	"orchard/state"
	"orchard/watch"
)

// plain is layer 20 by the letter, but for Watch: each answer follows from the entries alone.
type plain struct {
	texts map[int]string
	told  int
	wrong bool
}

// says returns what a check returns.
func (p *plain) says(ok bool) bool {
	p.wrong = p.wrong || !ok
	return ok
}

func (p *plain) known() int {
	for i := 1; ; i++ {
		if _, is := p.texts[i]; !is {
			return i - 1
		}
	}
}

// at returns the state of k.
func (p *plain) at(k int) *state.State {
	s := state.New()
	for i := 1; i <= k; i++ {
		s.Apply(p.texts[i])
	}
	return s
}

// events returns all events that a session had in the states of 1 to Known.
func (p *plain) events(session int) (list []watch.Event) {
	s := state.New()
	for i := 1; i <= p.known(); i++ {
		s.Apply(p.texts[i])
		for _, e := range s.Events(session) {
			if !slices.Contains(list, e) {
				list = append(list, e)
			}
		}
	}
	return list
}

func (p *plain) commit(i int, text string) bool {
	was, is := p.texts[i]
	if !is {
		p.texts[i] = text
	}
	return p.says(!is || was == text)
}

func (p *plain) answer(c op.Cmd, a replica.Reply, ahead int) bool {
	if !slices.Contains([]op.Kind{op.Update, op.Watch, op.Sync}, c.Kind) || a.E != api.OK {
		return true
	}
	when := a.Result.When
	if !(when > ahead) || when > a.At {
		return p.says(false)
	}
	if when > p.known() {
		return true
	}
	p.told = max(p.told, when)
	text, e := c.Bytes()
	if entry, is := p.texts[when]; e != api.OK || !is || entry != text {
		return p.says(false)
	}
	s := p.at(when)
	if !slices.Contains(s.Sessions(), c.Session) {
		return true
	}
	kept, is, e := s.Kept(c.Session, c.Req)
	return p.says(is && e == api.OK && reflect.DeepEqual(kept, a.Result))
}

func (p *plain) read(s string, a replica.Reply, least int) bool {
	if a.E == api.ErrUnavail {
		return true
	}
	if a.At < least {
		return p.says(false)
	}
	if a.At > p.known() {
		return true
	}
	node, e := p.at(a.At).Get(s)
	kids, _ := p.at(a.At).Kids(s)
	return p.says(node == a.Node && e == a.E && slices.Equal(kids, a.Kids))
}

func (p *plain) heard(session int, list []watch.Event, seen int) bool {
	if seen > p.known() {
		return true
	}
	all := p.events(session)
	if len(list) > len(all) || !slices.Equal(all[:len(list)], list) {
		return p.says(false)
	}
	if p.at(seen).Has(session) {
		for _, e := range all {
			if e.When <= seen && !slices.Contains(list, e) {
				return p.says(false)
			}
		}
	}
	return true
}

// is fails unless a judge knows this much.
func is(t *testing.T, j *Judge, known, told int, wrong bool) {
	t.Helper()
	e := api.OK
	if wrong {
		e = api.ErrBad
	}
	if j.Known() != known || j.Told() != told || j.Wrong() != e {
		t.Fatalf("Known %d, Told %d, Wrong %d, not %d, %d, %d", j.Known(), j.Told(), j.Wrong(), known, told, e)
	}
}

// history is commands that were committed, from 1 on, and what they come to.
type history struct {
	texts   []string
	cmds    []op.Cmd
	results []op.Result
	states  []*state.State // from 0 on
}

// newHistory returns the history of these commands. Their Reqs are counted by session, if they are 0.
func newHistory(t *testing.T, list ...op.Cmd) *history {
	t.Helper()
	h := &history{states: []*state.State{state.New()}}
	for _, c := range list {
		h.add(t, c)
	}
	return h
}

func (h *history) add(t *testing.T, c op.Cmd) {
	t.Helper()
	if c.Req == 0 && c.Kind != op.Open {
		for _, o := range h.cmds {
			if o.Session == c.Session {
				c.Req = o.Req
			}
		}
		c.Req++
	}
	text, e := c.Bytes()
	if e != api.OK {
		t.Fatal(c, e)
	}
	h.put(c, text)
}

func (h *history) put(c op.Cmd, text string) {
	s := h.states[len(h.states)-1].Clone()
	h.texts, h.cmds = append(h.texts, text), append(h.cmds, c)
	h.results = append(h.results, s.Apply(text))
	h.states = append(h.states, s)
}

// judge returns a judge that knows the first entries.
func (h *history) judge(t *testing.T, known int) *Judge {
	t.Helper()
	j := New()
	for i, text := range h.texts[:known] {
		if !j.Commit(i+1, text) {
			t.Fatal(i + 1)
		}
	}
	is(t, j, known, 0, false)
	return j
}

// reply returns the answer to command i that a replica with the state of at gives.
func (h *history) reply(i, at int) replica.Reply {
	return replica.Reply{Result: h.results[i-1], At: at, Lead: 1}
}

// node returns the answer to a read by a replica with the state of at.
func (h *history) node(s string, at int) replica.Reply {
	a := replica.Reply{At: at, Lead: 2}
	a.Node, a.E = h.states[at].Get(s)
	a.Kids, _ = h.states[at].Kids(s)
	return a
}

// say is a check, and what it must return.
func say(t *testing.T, j *Judge, ok, want bool, list ...any) {
	t.Helper()
	if ok != want {
		t.Fatalf("%v, not %v: %s", ok, want, fmt.Sprint(list...))
	}
	if !want && j.Wrong() != api.ErrBad {
		t.Fatalf("not wrong: %s", fmt.Sprint(list...))
	}
}

func open(session int) op.Cmd { return op.Cmd{Kind: op.Open, Session: session} }

func closed(session int) op.Cmd { return op.Cmd{Kind: op.Close, Session: session} }

func set(session int, s, data string) op.Cmd {
	return op.Made(session, 0, op.Op{Does: op.Set, Path: s, Data: data, Version: -1})
}

func create(session int, s string) op.Cmd {
	return op.Made(session, 0, op.Op{Does: op.Create, Path: s, Data: "new", Version: -1})
}

func look(session int, s string, kids, once bool) op.Cmd {
	return op.Cmd{Kind: op.Watch, Session: session, Path: s, Kids: kids, Once: once}
}

func synced(session int) op.Cmd { return op.Cmd{Kind: op.Sync, Session: session} }

// noted returns a command whose session has noted its events up to a No.
func noted(c op.Cmd, no int) op.Cmd {
	c.Noted = no
	return c
}
