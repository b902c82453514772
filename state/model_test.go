package state

import (
	"maps"
	"math/rand"
	"slices"
	"strconv"
	"testing"

	"orchard/api"
	"orchard/op"
	"orchard/tree"
	"orchard/watch"
)

// model is a state by the letter of P13.1: results as they are, and the whole of it copied before
// what may have no effect.
type model struct {
	at       int
	nodes    *tree.Tree
	requests map[int]request // of each session
	book     *watch.Book
}

// request is the last request of a session, and its result.
type request struct {
	req    int
	result op.Result
}

func (m *model) clone() *model {
	return &model{m.at, m.nodes.Clone(), maps.Clone(m.requests), m.book.Clone()}
}

func (m *model) apply(c op.Cmd) op.Result {
	m.at++
	r := m.run(c)
	r.Outs = slices.Clone(r.Outs)
	for m.endOne() {
	}
	return r
}

// run executes a command.
func (m *model) run(c op.Cmd) op.Result {
	last, is := m.requests[c.Session]
	switch {
	case c.Kind == op.Empty:
		return op.Result{When: m.at}
	case c.Kind == op.Open && (c.Session < 1 || c.Session > 1<<48-1):
		return op.Result{E: api.ErrArg, When: m.at}
	case c.Kind == op.Open && is:
		return op.Result{E: api.ErrExists, When: m.at}
	case c.Kind == op.Open && len(m.requests) == 16:
		return op.Result{E: api.ErrQuota, When: m.at}
	case c.Kind == op.Open:
		m.requests[c.Session] = request{}
		return op.Result{When: m.at}
	case !is:
		return op.Result{E: api.ErrSession, When: m.at}
	case c.Req < 1 || c.Req > 1<<48-1:
		return op.Result{E: api.ErrArg, When: m.at}
	case c.Req < last.req:
		return op.Result{E: api.ErrOld, When: m.at}
	case c.Req == last.req:
		return last.result
	}
	m.book.Noted(c.Session, c.Noted)
	r := op.Result{When: m.at}
	switch c.Kind {
	case op.Close:
		m.end(c.Session)
		return r
	case op.Update:
		before := m.clone()
		for i, o := range c.Ops {
			if r.E = m.operate(c.Session, o, &r); r.E != api.OK {
				*m = *before
				r.At, r.Outs = i, nil
				break
			}
		}
	case op.Watch:
		r.E = m.book.Add(watch.Watch{Session: c.Session, Path: c.Path, Kids: c.Kids, Once: c.Once})
	}
	m.requests[c.Session] = request{c.Req, r}
	return r
}

// operate executes an operation, and calls Fire at once: that is the same, unless one fails.
func (m *model) operate(session int, o op.Op, r *op.Result) api.Errno {
	path, version, e := o.Path, 0, api.OK
	switch o.Does {
	case op.Create:
		if !o.Own {
			session = 0
		}
		if path, e = m.nodes.Create(o.Path, o.Data, session, m.at, o.Serial); e == api.OK {
			m.book.Fire(path, watch.Made, m.at)
		}
	case op.Set:
		if version, e = m.nodes.Set(o.Path, o.Data, o.Version, m.at); e == api.OK {
			m.book.Fire(path, watch.Set, m.at)
		}
	case op.Delete:
		if e = m.nodes.Delete(o.Path, o.Version); e == api.OK {
			m.book.Fire(path, watch.Gone, m.at)
		}
	case op.Check:
		e = m.nodes.Check(o.Path, o.Version)
	}
	r.Outs = append(r.Outs, op.Out{Path: path, Version: version})
	return e
}

// end ends a session.
func (m *model) end(session int) {
	for {
		own := m.nodes.Owned(session)
		if len(own) == 0 {
			break
		}
		last := own[len(own)-1]
		m.nodes.Delete(last, -1)
		m.book.Fire(last, watch.Gone, m.at)
	}
	m.book.Drop(session)
	delete(m.requests, session)
}

// endOne ends the first session with more than five events, if there is one.
func (m *model) endOne() bool {
	for _, id := range slices.Sorted(maps.Keys(m.requests)) {
		if len(m.book.Events(id)) > 5 {
			m.end(id)
			return true
		}
	}
	return false
}

// equals checks that a state is as a model is, by all that can be asked of it.
func (m *model) equals(t *testing.T, what string, s *State) {
	t.Helper()
	if s.At() != m.at {
		t.Fatalf("%s: At = %d, want %d", what, s.At(), m.at)
	}
	if !s.Same(m.nodes) {
		t.Fatalf("%s: other nodes: %q", what, s.Paths())
	}
	if got, want := s.Sessions(), slices.Sorted(maps.Keys(m.requests)); !slices.Equal(got, want) {
		t.Fatalf("%s: Sessions = %d, want %d", what, got, want)
	}
	if got, want := s.Watches(), m.book.Watches(); !slices.Equal(got, want) {
		t.Fatalf("%s: Watches = %v\nwant %v", what, got, want)
	}
	for id := range 20 {
		if got, want := s.Events(id), m.book.Events(id); !slices.Equal(got, want) || len(got) > 5 {
			t.Fatalf("%s: Events(%d) = %v\nwant %v", what, id, got, want)
		}
		last, is := m.requests[id]
		if s.Has(id) != is {
			t.Fatalf("%s: Has(%d) = %t", what, id, !is)
		}
		if !is || last.req == 0 {
			continue
		}
		if r, seen, e := s.Kept(id, last.req); !r.Same(last.result) || !seen || e != api.OK {
			t.Fatalf("%s: Kept(%d, %d) = %v, %t, %d, want %v", what, id, last.req, r, seen, e, last.result)
		}
	}
}

// randomOp returns an operation that often succeeds.
func randomOp(r *rand.Rand, m *model) op.Op {
	list := []string{"/a", "/a", "/b", "/b", "/a/b", "/a/c", "/b/n", "/own", "/q/x", "no path"}
	o := op.Op{
		Does:    []op.Does{op.Create, op.Create, op.Create, op.Set, op.Set, op.Set, op.Delete, op.Check}[r.Intn(8)],
		Path:    list[r.Intn(len(list))],
		Data:    strconv.Itoa(r.Intn(100)),
		Version: max(r.Intn(16)-14, -1),
		Serial:  r.Intn(8) == 0,
		Own:     r.Intn(3) == 0,
	}
	if known := m.nodes.Paths(); o.Does != op.Create && r.Intn(10) > 0 {
		o.Path = known[r.Intn(len(known))]
	}
	return o
}

// randomCmd returns a command of one of a few sessions, which often is its next request.
func randomCmd(r *rand.Rand, m *model) op.Cmd {
	c := op.Cmd{Session: r.Intn(18), Path: randomOp(r, m).Path, Kids: r.Intn(2) == 0, Once: r.Intn(4) == 0}
	if known := slices.Sorted(maps.Keys(m.requests)); len(known) > 0 && r.Intn(8) > 0 {
		c.Session = known[r.Intn(len(known))]
	}
	c.Req = max(m.requests[c.Session].req+[]int{-1, 0, 1, 1, 1, 1, 1, 1, 2, 9}[r.Intn(10)], 0)
	switch list := m.book.Events(c.Session); {
	case len(list) > 0 && r.Intn(8) == 0:
		c.Noted = list[r.Intn(len(list))].No
	case r.Intn(16) == 0:
		c.Noted = r.Intn(20)
	}
	c.Kind = []op.Kind{op.Empty, op.Open, op.Open, op.Open, op.Open, op.Close, op.Watch, op.Watch, op.Watch, op.Sync,
		op.Update, op.Update, op.Update, op.Update, op.Update, op.Update, op.Update, op.Update}[r.Intn(18)]
	if c.Kind == op.Close && r.Intn(4) > 0 {
		c.Kind = op.Sync
	}
	for range []int{0, 1, 1, 1, 2, 2, 3, 4}[r.Intn(8)] {
		c.Ops = append(c.Ops, randomOp(r, m))
	}
	return c
}

// P13.1, P13.2: whatever is applied, a state answers as its model does; and so do states that are
// its copies, or read from its Bytes.
func TestModel(t *testing.T) {
	ends, fails := 0, 0
	for seed := range 40 {
		r := rand.New(rand.NewSource(int64(seed)))
		s := New()
		m := &model{nodes: tree.New(), requests: map[int]request{}, book: watch.New()}
		for at := range 600 {
			c := randomCmd(r, m)
			command, e := c.Bytes()
			if e != api.OK {
				t.Fatal(c, e)
			}
			before := len(s.Sessions())
			got, want := s.Apply(command), m.apply(c)
			if !got.Same(want) {
				t.Fatalf("%d, %d: Apply of %v = %v, want %v", seed, at, c, got, want)
			}
			m.equals(t, "after "+strconv.Itoa(at), s)
			if c.Kind == op.Update && len(s.Sessions()) < before {
				ends++
			}
			if got.E != api.OK && got.At > 0 {
				fails++
			}
			if at%20 == 0 {
				fork(t, r, s, m)
				s, e = Read(s.Bytes())
				if e != api.OK {
					t.Fatal("read: ", e)
				}
			}
		}
	}
	if ends < 50 || fails < 50 {
		t.Errorf("only %d sessions ended by an Update, and %d of them failed behind their start", ends, fails)
	}
}

// fork lets a copy and what is read from the Bytes go on, each by itself, and checks that all three
// states are as their models are.
func fork(t *testing.T, r *rand.Rand, s *State, m *model) {
	t.Helper()
	text := s.Bytes()
	copied, k := s.Clone(), m.clone()
	read, e := Read(text)
	l := m.clone()
	if e != api.OK {
		t.Fatal("read: ", e)
	}
	for range 8 {
		c := randomCmd(r, k)
		command, _ := c.Bytes()
		if got, want := copied.Apply(command), k.apply(c); !got.Same(want) {
			t.Fatalf("the copy: Apply of %v = %v, want %v", c, got, want)
		}
		c = randomCmd(r, l)
		command, _ = c.Bytes()
		if got, want := read.Apply(command), l.apply(c); !got.Same(want) {
			t.Fatalf("read: Apply of %v = %v, want %v", c, got, want)
		}
	}
	k.equals(t, "the copy", copied)
	l.equals(t, "read", read)
	m.equals(t, "copied and read", s)
	if s.Bytes() != text {
		t.Error("the Bytes changed")
	}
}
