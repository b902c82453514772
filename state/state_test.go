package state

import (
	"math"
	"slices"
	"strings"
	"testing"

	"orchard/api"
	"orchard/op"
	"orchard/pith"
	"orchard/tree"
	"orchard/watch"
)

// text returns the encoding of a command.
func text(t *testing.T, c op.Cmd) string {
	t.Helper()
	s, e := c.Bytes()
	if e != api.OK {
		t.Fatalf("Bytes of %v: %d", c, e)
	}
	return s
}

// applies applies a command, and checks its result and the number of it.
func applies(t *testing.T, s *State, c op.Cmd, want op.Result) {
	t.Helper()
	at := s.At()
	r := s.Apply(text(t, c))
	if !r.Same(want) {
		t.Errorf("Apply of %v = %v, want %v", c, r, want)
	}
	if s.At() != at+1 {
		t.Errorf("At = %d after %d", s.At(), at)
	}
}

// succeeds applies a command whose result is OK and as recent as it is.
func succeeds(t *testing.T, s *State, c op.Cmd) op.Result {
	t.Helper()
	r := s.Apply(text(t, c))
	if r.E != api.OK || r.At != 0 || r.When != s.At() {
		t.Fatalf("Apply of %v = %v at %d", c, r, s.At())
	}
	return r
}

// opens opens sessions.
func opens(t *testing.T, s *State, ids ...int) {
	t.Helper()
	for _, id := range ids {
		succeeds(t, s, op.Cmd{Kind: op.Open, Session: id})
	}
}

// watches adds a watch of a session by its next request.
func watches(t *testing.T, s *State, w watch.Watch) {
	t.Helper()
	succeeds(t, s, op.Cmd{Kind: op.Watch, Session: w.Session, Req: next(s, w.Session), Path: w.Path, Kids: w.Kids, Once: w.Once})
}

// updates executes operations of a session by its next request.
func updates(t *testing.T, s *State, session int, list ...op.Op) {
	t.Helper()
	succeeds(t, s, op.Made(session, next(s, session), list...))
}

// next returns the lowest number that a session's next request can have.
func next(s *State, session int) int {
	for req := 1; ; req++ {
		if _, seen, e := s.Kept(session, req); e != api.ErrOld && !seen {
			return req
		}
	}
}

// set and makes are operations that succeed wherever their node can be.
func set(s string) op.Op   { return op.Op{Does: op.Set, Path: s, Version: -1} }
func makes(s string) op.Op { return op.Op{Does: op.Create, Path: s, Version: -1} }
func owns(s string) op.Op  { return op.Op{Does: op.Create, Path: s, Version: -1, Own: true} }
func gone(s string) op.Op  { return op.Op{Does: op.Delete, Path: s, Version: -1} }

// events checks a session's events.
func events(t *testing.T, s *State, session int, want ...watch.Event) {
	t.Helper()
	if got := s.Events(session); !slices.Equal(got, want) {
		t.Errorf("Events(%d) = %v\nwant        %v", session, got, want)
	}
}

// sessions checks which sessions there are.
func sessions(t *testing.T, s *State, want ...int) {
	t.Helper()
	if got := s.Sessions(); !slices.Equal(got, want) {
		t.Errorf("Sessions = %d, want %d", got, want)
	}
	for _, id := range []int{math.MinInt, -1, 0, 1, 2, 3, 4, 5, 6, 7, 8, 9, 16, 17, pith.Most, pith.Most + 1} {
		if s.Has(id) != slices.Contains(want, id) {
			t.Errorf("Has(%d) = %t", id, s.Has(id))
		}
	}
}

// paths checks which nodes there are, besides the root.
func paths(t *testing.T, s *State, want ...string) {
	t.Helper()
	if got := s.Paths(); !slices.Equal(got, append([]string{"/"}, want...)) {
		t.Errorf("Paths = %q, want %q", got, want)
	}
}

// gets checks a node.
func gets(t *testing.T, s *State, path string, want tree.Node) {
	t.Helper()
	if n, e := s.Get(path); n != want || e != api.OK {
		t.Errorf("Get(%q) = %+v, %d, want %+v", path, n, e, want)
	}
}

// kept checks a stored result.
func kept(t *testing.T, s *State, session, req int, want op.Result, is bool, e api.Errno) {
	t.Helper()
	r, got, f := s.Kept(session, req)
	if !r.Same(want) || got != is || f != e {
		t.Errorf("Kept(%d, %d) = %v, %t, %d, want %v, %t, %d", session, req, r, got, f, want, is, e)
	}
}

// changesOnly runs Apply on a text, and checks that nothing but At changes.
func changesOnly(t *testing.T, s *State, command string, want op.Result) {
	t.Helper()
	before := s.Bytes()
	if r := s.Apply(command); !r.Same(want) {
		t.Errorf("Apply(%.40q) = %v, want %v", command, r, want)
	}
	after := s.Bytes()
	if after[6:] != before[6:] {
		t.Errorf("Apply(%.40q) changed the state", command)
	}
	if pith.Read(after).Num(pith.Most) != pith.Read(before).Num(pith.Most)+1 {
		t.Errorf("Apply(%.40q) did not increase At by one", command)
	}
}

// P13.1: a new state, and that it is apart from others.
func TestNew(t *testing.T) {
	s := New()
	if s.At() != 0 || len(s.Watches()) != 0 || !s.Same(tree.New()) {
		t.Errorf("At %d, %v", s.At(), s.Watches())
	}
	sessions(t, s)
	paths(t, s)
	events(t, s, 1)
	opens(t, s, 1)
	updates(t, s, 1, makes("/a"))
	watches(t, s, watch.Watch{Session: 1, Path: "/a"})
	fresh := New()
	if fresh.At() != 0 || len(fresh.Watches()) != 0 || !fresh.Same(tree.New()) {
		t.Error("two new states share what they have")
	}
	sessions(t, fresh)
}

// P13.1: a nil State has At 0 and nothing else, whatever is applied to it.
func TestNil(t *testing.T) {
	var s *State
	list := []string{"", "no command"}
	for _, c := range []op.Cmd{{}, {Kind: op.Open, Session: 1}, {Kind: op.Open}, {Kind: op.Close, Session: 1, Req: 1},
		op.Made(1, 1, makes("/a")), {Kind: op.Watch, Session: 1, Req: 1, Path: "/"}, {Kind: op.Sync, Session: 1, Req: 1}} {
		list = append(list, text(t, c))
	}
	for _, command := range list {
		if r := s.Apply(command); r.When != 0 || r.At != 0 || len(r.Outs) != 0 {
			t.Errorf("Apply(%.20x) = %v", command, r)
		}
		if s.At() != 0 || len(s.Watches()) != 0 || len(s.Events(1)) != 0 {
			t.Errorf("At %d, %v, %v", s.At(), s.Watches(), s.Events(1))
		}
		sessions(t, s)
		for _, req := range []int{math.MinInt, 0, 1, pith.Most + 1} {
			kept(t, s, req, 1, op.Result{}, false, api.ErrSession)
			kept(t, s, 1, req, op.Result{}, false, api.ErrSession)
		}
	}
	if r := s.Apply(text(t, op.Made(1, 1))); r.E != api.ErrSession {
		t.Error(r)
	}
	if r := s.Apply(text(t, op.Cmd{Kind: op.Open, Session: 1})); r.E != api.ErrArg {
		t.Error(r)
	}
	if s.Bytes() != strings.Repeat("\x00", 36) {
		t.Errorf("Bytes = %x", s.Bytes())
	}
	var o *State
	if !s.Is(o) || s.Is(New()) || New().Is(s) {
		t.Error("Is, of nil")
	}
	if c := s.Clone(); c == nil || !c.Is(New()) {
		t.Error("a copy of nil is not New")
	}
}

// P13.1: Empty, and text that encodes no command.
func TestEmpty(t *testing.T) {
	s := New()
	opens(t, s, 1)
	updates(t, s, 1, makes("/a"))
	watches(t, s, watch.Watch{Session: 1, Path: "/a"})
	updates(t, s, 1, set("/a"))
	whole := text(t, op.Made(1, 9, set("/a")))
	list := []string{
		text(t, op.Cmd{}),
		text(t, op.Cmd{Kind: op.Empty, Session: 1, Req: 9, Noted: 9, Ops: []op.Op{set("/a")}, Path: "/a"}),
		"", "x", strings.Repeat("\x00", 100), whole[:len(whole)-1], whole + "\x00", "\x06" + whole[1:], strings.Repeat("x", 100000),
	}
	for i, command := range list {
		changesOnly(t, s, command, op.Result{When: 5 + i})
	}
}

// P13.1: Open has layer 10's errors, and no request.
func TestOpen(t *testing.T) {
	s := New()
	for i := range 16 {
		applies(t, s, op.Cmd{Kind: op.Open, Session: 5 * (16 - i), Req: i, Noted: 7}, op.Result{When: 1 + i})
	}
	kept(t, s, 5, 15, op.Result{}, false, api.OK)
	kept(t, s, 5, 1, op.Result{}, false, api.OK)
	open := func(id int) string { return text(t, op.Cmd{Kind: op.Open, Session: id, Req: 1}) }
	changesOnly(t, s, open(5), op.Result{E: api.ErrExists, When: 17})
	changesOnly(t, s, open(5), op.Result{E: api.ErrExists, When: 18})
	changesOnly(t, s, open(6), op.Result{E: api.ErrQuota, When: 19})
	changesOnly(t, s, open(0), op.Result{E: api.ErrArg, When: 20})
	succeeds(t, s, op.Cmd{Kind: op.Close, Session: 80, Req: 1})
	applies(t, s, op.Cmd{Kind: op.Open, Session: pith.Most}, op.Result{When: 22})
	want := []int{5, 10, 15, 20, 25, 30, 35, 40, 45, 50, 55, 60, 65, 70, 75, pith.Most}
	if got := s.Sessions(); !slices.Equal(got, want) {
		t.Errorf("Sessions = %d", got)
	}
}

// others are a command of each Kind that has a request.
func others(session, req int) []op.Cmd {
	list := []op.Cmd{op.Made(session, req, makes("/new")), op.Made(session, req, set("/nowhere"))}
	for _, kind := range []op.Kind{op.Close, op.Watch, op.Sync} {
		list = append(list, op.Cmd{Kind: kind, Session: session, Req: req, Path: "/a"})
	}
	for i := range list {
		list[i].Noted = pith.Most
	}
	return list
}

// P13.1: layer 10's error of Seen, and a request that was seen, whatever the Kind is: then the
// events are not noted, either.
func TestSeen(t *testing.T) {
	s := New()
	opens(t, s, 1, 2)
	watches(t, s, watch.Watch{Session: 1, Path: "/a"})
	updates(t, s, 2, makes("/a"))
	applies(t, s, op.Made(1, 5, set("/a"), set("/a"), gone("/b")), op.Result{E: api.ErrNode, At: 2, When: 5})
	events(t, s, 1, watch.Event{Session: 1, No: 1, Path: "/a", What: watch.Made, When: 4})
	for _, x := range []struct {
		session, req int
		want         op.Result
	}{
		{3, 1, op.Result{E: api.ErrSession}},
		{0, 1, op.Result{E: api.ErrSession}},
		{3, 0, op.Result{E: api.ErrSession}},
		{pith.Most, 5, op.Result{E: api.ErrSession}},
		{1, 0, op.Result{E: api.ErrArg}},
		{2, 0, op.Result{E: api.ErrArg}},
		{1, 1, op.Result{E: api.ErrOld}},
		{1, 4, op.Result{E: api.ErrOld}},
		{1, 5, op.Result{E: api.ErrNode, At: 2, When: 5}},
		{2, 1, op.Result{Outs: []op.Out{{Path: "/a"}}, When: 4}},
	} {
		for _, c := range others(x.session, x.req) {
			want := x.want
			if want.When == 0 {
				want.When = s.At() + 1
			}
			changesOnly(t, s, text(t, c), want)
		}
	}
	applies(t, s, op.Cmd{Kind: op.Sync, Session: 1, Req: pith.Most}, op.Result{When: s.At() + 1})
	for _, c := range others(1, pith.Most-1) {
		changesOnly(t, s, text(t, c), op.Result{E: api.ErrOld, When: s.At() + 1})
	}
}

// P13.1: each Kind but Open and Close stores its result, also an error; P13.2: Kept returns it.
func TestStored(t *testing.T) {
	s := New()
	opens(t, s, 7)
	for i := range 39 {
		c := "abcdefghijklmnopqrstuvwxyz0123456789---"[i : i+1]
		watches(t, s, watch.Watch{Session: 7, Path: "/" + c, Kids: i > 36, Once: i > 37})
	}
	at := s.At()
	list := []struct {
		c    op.Cmd
		want op.Result
	}{
		{op.Cmd{Kind: op.Sync, Req: 50}, op.Result{When: at + 1}},
		{op.Made(0, 51), op.Result{When: at + 2}},
		{op.Made(0, 53, makes("/x"), set("/x")), op.Result{When: at + 3, Outs: []op.Out{{Path: "/x"}, {Path: "/x", Version: 1}}}},
		{op.Made(0, 54, makes("/x")), op.Result{When: at + 4, E: api.ErrExists}},
		{op.Made(0, 55, set("/x"), set("/q")), op.Result{When: at + 5, E: api.ErrNode, At: 1}},
		{op.Cmd{Kind: op.Watch, Req: 60, Path: "no path"}, op.Result{When: at + 6, E: api.ErrPath}},
		{op.Cmd{Kind: op.Watch, Req: 61, Path: "/last"}, op.Result{When: at + 7}},
		{op.Cmd{Kind: op.Watch, Req: 62, Path: "/more"}, op.Result{When: at + 8, E: api.ErrQuota}},
		{op.Cmd{Kind: op.Watch, Req: 63, Path: "/a"}, op.Result{When: at + 9}},
		{op.Cmd{Kind: op.Sync, Req: pith.Most}, op.Result{When: at + 10}},
	}
	for _, x := range list {
		x.c.Session = 7
		kept(t, s, 7, x.c.Req, op.Result{}, false, api.OK)
		applies(t, s, x.c, x.want)
		kept(t, s, 7, x.c.Req, x.want, true, api.OK)
		kept(t, s, 7, x.c.Req-1, op.Result{}, false, api.ErrOld)
	}
	if len(s.Watches()) != 40 {
		t.Errorf("%d watches", len(s.Watches()))
	}
	for _, req := range []int{math.MinInt, -1, 0, pith.Most + 1, math.MaxInt} {
		kept(t, s, 7, req, op.Result{}, false, api.ErrArg)
		kept(t, s, 8, req, op.Result{}, false, api.ErrSession)
	}
	applies(t, s, op.Cmd{Kind: op.Close, Session: 7, Req: pith.Most}, op.Result{When: at + 10})
	sessions(t, s, 7)
}

// P13.1, example 1: an Update that is repeated has its result, and is executed once.
func TestRepeated(t *testing.T) {
	s := New()
	opens(t, s, 1)
	c := op.Made(1, 1, op.Op{Does: op.Create, Path: "/a", Serial: true}, set("/"))
	want := op.Result{Outs: []op.Out{{Path: "/a0000000000"}, {Path: "/", Version: 1}}, When: 2}
	for range 3 {
		applies(t, s, c, want)
	}
	c.Ops[0].Path = "/other"
	applies(t, s, c, want)
	paths(t, s, "/a0000000000")
	gets(t, s, "/", tree.Node{Version: 1, Below: 1, Set: 2, Serial: 1})
}

// P13.1: before any other command of the session, its events up to Noted are removed, also if the
// command then fails; those of other sessions remain.
func TestNoted(t *testing.T) {
	start := New()
	opens(t, start, 1, 2)
	watches(t, start, watch.Watch{Session: 1, Path: "/"})
	watches(t, start, watch.Watch{Session: 2, Path: "/"})
	for range 4 {
		updates(t, start, 2, set("/"))
	}
	mine, theirs := start.Events(1), start.Events(2)
	list := []op.Cmd{
		{Kind: op.Sync},
		{Kind: op.Watch, Path: "/b"},
		{Kind: op.Watch, Path: "no path"},
		op.Made(1, 0),
		op.Made(1, 0, makes("/c")),
		op.Made(1, 0, gone("/")),
	}
	for _, c := range list {
		for noted := range 7 {
			s := start.Clone()
			c.Session, c.Req, c.Noted = 1, 2, noted
			s.Apply(text(t, c))
			events(t, s, 1, mine[min(noted, 4):]...)
			events(t, s, 2, theirs...)
		}
	}
	s := start.Clone()
	applies(t, s, op.Cmd{Kind: op.Sync, Session: 1, Req: 2, Noted: 4}, op.Result{When: s.At() + 1})
	updates(t, s, 2, set("/"))
	events(t, s, 1, watch.Event{Session: 1, No: 5, Path: "/", What: watch.Set, When: s.At()})
	// what is noted makes room for the events of the same command
	c := op.Made(2, 9, set("/"), set("/"), set("/"), set("/"))
	c.Noted = 4
	succeeds(t, s, c)
	sessions(t, s, 1, 2)
	events(t, s, 2, watch.Event{Session: 2, No: 5, Path: "/", What: watch.Set, When: s.At() - 1},
		watch.Event{Session: 2, No: 6, Path: "/", What: watch.Set, When: s.At()},
		watch.Event{Session: 2, No: 7, Path: "/", What: watch.Set, When: s.At()},
		watch.Event{Session: 2, No: 8, Path: "/", What: watch.Set, When: s.At()},
		watch.Event{Session: 2, No: 9, Path: "/", What: watch.Set, When: s.At()})
}

// P13.1: the watch of a Watch is that of its session, with all its fields.
func TestWatch(t *testing.T) {
	s := New()
	opens(t, s, 1, 2)
	var want []watch.Watch
	for _, w := range []watch.Watch{
		{Session: 1, Path: "/a"}, {Session: 1, Path: "/a", Once: true}, {Session: 1, Path: "/a", Kids: true},
		{Session: 1, Path: "/a", Kids: true, Once: true}, {Session: 2, Path: "/"}, {Session: 2, Path: "/a/b", Once: true},
	} {
		want = append(want, w)
		watches(t, s, w)
		watches(t, s, w)
		if got := s.Watches(); !slices.Equal(got, want) {
			t.Errorf("Watches = %v\nwant      %v", got, want)
		}
	}
	for i, bad := range []string{"", "a", "/a/", "/A"} {
		applies(t, s, op.Cmd{Kind: op.Watch, Session: 1, Req: 90 + i, Path: bad}, op.Result{E: api.ErrPath, When: s.At() + 1})
	}
	if got := s.Watches(); !slices.Equal(got, want) {
		t.Errorf("Watches = %v\nwant      %v", got, want)
	}
}

// P13.2: Bytes and what else is returned does not change with the state.
func TestResultsAreNew(t *testing.T) {
	s := New()
	opens(t, s, 1, 2)
	watches(t, s, watch.Watch{Session: 1, Path: "/", Kids: true})
	updates(t, s, 1, makes("/a"), makes("/b"))
	before := s.Bytes()
	ids, list, seen := s.Sessions(), s.Watches(), s.Events(1)
	ids[0], list[0].Path, seen[0].Path = 99, "/x", "/y"
	r, _, _ := s.Kept(1, 2)
	r.Outs[0].Path = "/z"
	r = s.Apply(text(t, op.Made(1, 2)))
	r.Outs[0].Path = "/z"
	succeeds(t, s, op.Made(1, 3, set("/a"))).Outs[0].Path = "/z"
	kept(t, s, 1, 3, op.Result{Outs: []op.Out{{Path: "/a", Version: 1}}, When: s.At()}, true, api.OK)
	events(t, s, 1, watch.Event{Session: 1, No: 1, Path: "/", What: watch.Below, When: 4},
		watch.Event{Session: 1, No: 2, Path: "/", What: watch.Below, When: 4})
	sessions(t, s, 1, 2)
	if got := s.Watches(); !slices.Equal(got, []watch.Watch{{Session: 1, Path: "/", Kids: true}}) {
		t.Errorf("Watches = %v", got)
	}
	if u, e := Read(before); e != api.OK || u.At() != 4 {
		t.Errorf("%d", e)
	}
}
