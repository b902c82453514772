package state

import (
	"strings"
	"testing"

	"orchard/api"
	"orchard/op"
	"orchard/tree"
	"orchard/watch"
)

// P13.1: the operations of an Update, each on the tree as left by the previous ones, with its Out.
func TestUpdate(t *testing.T) {
	s := New()
	opens(t, s, 5)
	applies(t, s, op.Made(5, 1, op.Op{Does: op.Create, Path: "/a", Data: "x"}, op.Op{Does: op.Create, Path: "/a/b", Data: "y"},
		op.Op{Does: op.Set, Path: "/a", Data: "z"}, op.Op{Does: op.Check, Path: "/a", Version: 1}),
		op.Result{Outs: []op.Out{{Path: "/a"}, {Path: "/a/b"}, {Path: "/a", Version: 1}, {Path: "/a"}}, When: 2})
	gets(t, s, "/", tree.Node{Below: 1})
	gets(t, s, "/a", tree.Node{Data: "z", Version: 1, Below: 1, Made: 2, Set: 2})
	gets(t, s, "/a/b", tree.Node{Data: "y", Made: 2, Set: 2})
	applies(t, s, op.Made(5, 2, op.Op{Does: op.Set, Path: "/a", Data: "v2", Version: 1}, op.Op{Does: op.Set, Path: "/a", Data: "v3", Version: 2},
		op.Op{Does: op.Delete, Path: "/a/b", Version: 0}, op.Op{Does: op.Delete, Path: "/a", Version: 3}),
		op.Result{Outs: []op.Out{{Path: "/a", Version: 2}, {Path: "/a", Version: 3}, {Path: "/a/b"}, {Path: "/a"}}, When: 3})
	paths(t, s)
	gets(t, s, "/", tree.Node{Below: 2})
	applies(t, s, op.Made(5, 3), op.Result{When: 4})
	applies(t, s, op.Made(5, 4, op.Op{Does: op.Check, Path: "/", Version: 0}, op.Op{Does: op.Check, Path: "/", Version: -1}),
		op.Result{Outs: []op.Out{{Path: "/"}, {Path: "/"}}, When: 5})
	gets(t, s, "/", tree.Node{Below: 2})
}

// P13.1: what an Update does not use of a command or an operation has no effect.
func TestUpdateUnused(t *testing.T) {
	s := New()
	opens(t, s, 5)
	c := op.Made(5, 1, op.Op{Does: op.Create, Path: "/a", Version: 77},
		op.Op{Does: op.Set, Path: "/a", Data: "x", Serial: true, Own: true},
		op.Op{Does: op.Check, Path: "/a", Data: strings.Repeat("d", 61), Version: 1, Serial: true, Own: true})
	c.Path, c.Kids, c.Once = "/a", true, true
	applies(t, s, c, op.Result{Outs: []op.Out{{Path: "/a"}, {Path: "/a", Version: 1}, {Path: "/a"}}, When: 2})
	gets(t, s, "/a", tree.Node{Data: "x", Version: 1, Made: 2, Set: 2})
	applies(t, s, op.Made(5, 2, op.Op{Does: op.Delete, Path: "/a", Data: "y", Version: 1, Serial: true, Own: true}),
		op.Result{Outs: []op.Out{{Path: "/a"}}, When: 3})
	paths(t, s)
	if len(s.Watches()) != 0 {
		t.Errorf("Watches = %v", s.Watches())
	}
}

// P13.1: Create with Serial returns, and its events tell of, the path that was created; with Own
// the session owns the node.
func TestCreate(t *testing.T) {
	s := New()
	opens(t, s, 5, 6)
	watches(t, s, watch.Watch{Session: 6, Path: "/n"})
	watches(t, s, watch.Watch{Session: 6, Path: "/n0000000001"})
	watches(t, s, watch.Watch{Session: 6, Path: "/", Kids: true, Once: true})
	serial := op.Op{Does: op.Create, Path: "/n", Serial: true}
	own := op.Op{Does: op.Create, Path: "/n", Serial: true, Own: true}
	applies(t, s, op.Made(5, 1, serial, own, owns("/own"), makes("/plain")), op.Result{When: 6,
		Outs: []op.Out{{Path: "/n0000000000"}, {Path: "/n0000000001"}, {Path: "/own"}, {Path: "/plain"}}})
	gets(t, s, "/", tree.Node{Below: 4, Serial: 2})
	gets(t, s, "/n0000000000", tree.Node{Made: 6, Set: 6})
	gets(t, s, "/n0000000001", tree.Node{Owner: 5, Made: 6, Set: 6})
	gets(t, s, "/own", tree.Node{Owner: 5, Made: 6, Set: 6})
	gets(t, s, "/plain", tree.Node{Made: 6, Set: 6})
	events(t, s, 6, watch.Event{Session: 6, No: 1, Path: "/", What: watch.Below, When: 6},
		watch.Event{Session: 6, No: 2, Path: "/n0000000001", What: watch.Made, When: 6})
	updates(t, s, 5, serial)
	paths(t, s, "/n0000000000", "/n0000000001", "/n0000000002", "/own", "/plain")
}

// failing are operations that fail on a tree that has /a, with /a/b below it, and a node /own of a
// session; none of them would fail for another reason.
func failing() []struct {
	o    op.Op
	want api.Errno
} {
	long := strings.Repeat("d", 61)
	return []struct {
		o    op.Op
		want api.Errno
	}{
		{op.Op{Does: op.Create, Path: "", Version: -1}, api.ErrPath},
		{op.Op{Does: op.Create, Path: "/A", Version: -1}, api.ErrPath},
		{op.Op{Does: op.Create, Path: "/elevenbytes", Serial: true}, api.ErrPath},
		{makes("/"), api.ErrExists},
		{makes("/a"), api.ErrExists},
		{op.Op{Does: op.Create, Path: "/x", Data: long}, api.ErrLong},
		{makes("/q/x"), api.ErrNode},
		{makes("/own/x"), api.ErrEphem},
		{op.Op{Does: op.Set, Path: "x"}, api.ErrPath},
		{set("/q"), api.ErrNode},
		{op.Op{Does: op.Set, Path: "/a/b", Version: 7}, api.ErrVersion},
		{op.Op{Does: op.Set, Path: "/a/b", Data: long, Version: -1}, api.ErrLong},
		{gone("/a/"), api.ErrPath},
		{gone("/q"), api.ErrNode},
		{op.Op{Does: op.Delete, Path: "/a/b", Version: 7}, api.ErrVersion},
		{gone("/"), api.ErrArg},
		{gone("/a"), api.ErrKids},
		{op.Op{Does: op.Check, Path: "//", Version: -1}, api.ErrPath},
		{op.Op{Does: op.Check, Path: "/q", Version: -1}, api.ErrNode},
		{op.Op{Does: op.Check, Path: "/a/b", Version: 1}, api.ErrVersion},
	}
}

// P13.1: at the first error no operation has an effect, wherever it is; only the result is stored.
func TestUpdateFails(t *testing.T) {
	start := New()
	opens(t, start, 5, 6)
	updates(t, start, 5, makes("/a"), makes("/a/b"), owns("/own"))
	for _, s := range []string{"/", "/a", "/a/b", "/own", "/new"} {
		watches(t, start, watch.Watch{Session: 6, Path: s})
		watches(t, start, watch.Watch{Session: 6, Path: s, Kids: true, Once: true})
	}
	good := []op.Op{owns("/new"), set("/a"), {Does: op.Create, Path: "/n", Serial: true}, gone("/own"), set("/")}
	twice := []op.Op{set("/nowhere"), gone("/nowhere/either")}
	for _, x := range failing() {
		for _, list := range [][]op.Op{
			{x.o},
			{x.o, good[0]},
			{x.o, twice[0], twice[1]},
			{good[0], x.o, good[1]},
			{good[1], good[4], x.o, twice[0]},
			{good[0], good[1], good[2], x.o},
		} {
			s := start.Clone()
			at := 0
			for list[at] != x.o {
				at++
			}
			want := op.Result{E: x.want, At: at, When: s.At() + 1}
			applies(t, s, op.Made(5, 2, list...), want)
			kept(t, s, 5, 2, want, true, api.OK)
			if !s.Same(start.Tree) || len(s.Events(6)) != 0 || len(s.Watches()) != len(start.Watches()) {
				t.Errorf("%v had an effect", list)
			}
			// nothing but the number of the command and the result differs
			o := start.Clone()
			o.Apply(text(t, op.Cmd{Kind: op.Sync, Session: 5, Req: 2}))
			if a, b := s.Bytes(), o.Bytes(); len(a) != len(b) || strings.Count(a, "/own") != strings.Count(b, "/own") {
				t.Errorf("%v had an effect", list)
			}
			applies(t, s, op.Made(5, 3, good[:4]...), op.Result{When: s.At() + 1,
				Outs: []op.Out{{Path: "/new"}, {Path: "/a", Version: 1}, {Path: "/n0000000000"}, {Path: "/own"}}})
		}
	}
}

// P13.1: an operation can fail because of a previous one, and succeed because of one.
func TestUpdateInOrder(t *testing.T) {
	s := New()
	opens(t, s, 5)
	applies(t, s, op.Made(5, 1, makes("/a"), gone("/a"), set("/a")), op.Result{E: api.ErrNode, At: 2, When: 2})
	applies(t, s, op.Made(5, 2, makes("/a"), makes("/a")), op.Result{E: api.ErrExists, At: 1, When: 3})
	applies(t, s, op.Made(5, 3, set("/"), op.Op{Does: op.Check, Path: "/", Version: 0}), op.Result{E: api.ErrVersion, At: 1, When: 4})
	applies(t, s, op.Made(5, 4, owns("/a"), makes("/a/b")), op.Result{E: api.ErrEphem, At: 1, When: 5})
	paths(t, s)
	gets(t, s, "/", tree.Node{})
	applies(t, s, op.Made(5, 5, makes("/a"), gone("/a"), makes("/a"), makes("/a/b")),
		op.Result{Outs: []op.Out{{Path: "/a"}, {Path: "/a"}, {Path: "/a"}, {Path: "/a/b"}}, When: 6})
	gets(t, s, "/", tree.Node{Below: 3})
}

// P13.1: the quota of nodes fails an Update as a whole.
func TestUpdateQuota(t *testing.T) {
	s := New()
	opens(t, s, 5)
	for s.Len() < 59 {
		updates(t, s, 5, op.Op{Does: op.Create, Path: "/n", Serial: true})
	}
	applies(t, s, op.Made(5, 99, makes("/x"), makes("/y")), op.Result{E: api.ErrQuota, At: 1, When: s.At() + 1})
	applies(t, s, op.Made(5, 100, makes("/x"), gone("/x"), makes("/y")),
		op.Result{Outs: []op.Out{{Path: "/x"}, {Path: "/x"}, {Path: "/y"}}, When: s.At() + 1})
	applies(t, s, op.Made(5, 101, makes("/x")), op.Result{E: api.ErrQuota, When: s.At() + 1})
	if s.Len() != 60 {
		t.Errorf("Len = %d", s.Len())
	}
}

// P13.1: Fire is called for each operation in order, with its kind; not for Check.
func TestUpdateFires(t *testing.T) {
	s := New()
	opens(t, s, 5, 6, 7)
	watches(t, s, watch.Watch{Session: 6, Path: "/a"})
	watches(t, s, watch.Watch{Session: 6, Path: "/", Kids: true})
	watches(t, s, watch.Watch{Session: 7, Path: "/", Once: true})
	watches(t, s, watch.Watch{Session: 7, Path: "/a", Kids: true})
	check := op.Op{Does: op.Check, Path: "/a", Version: -1}
	event := func(session, no int, path string, what watch.What) watch.Event {
		return watch.Event{Session: session, No: no, Path: path, What: what, When: s.At()}
	}
	updates(t, s, 5, makes("/a"), check, makes("/a/b"), set("/a"))
	events(t, s, 6, event(6, 1, "/", watch.Below), event(6, 2, "/a", watch.Made), event(6, 3, "/a", watch.Set))
	events(t, s, 7, event(7, 1, "/a", watch.Below))
	succeeds(t, s, op.Cmd{Kind: op.Sync, Session: 6, Req: 3, Noted: 3})
	succeeds(t, s, op.Cmd{Kind: op.Sync, Session: 7, Req: 3, Noted: 1})
	updates(t, s, 5, check, set("/"), op.Op{Does: op.Check, Path: "/", Version: 1}, set("/"))
	events(t, s, 6)
	events(t, s, 7, event(7, 2, "/", watch.Set))
	updates(t, s, 5, gone("/a/b"), gone("/a"), makes("/a"))
	events(t, s, 6, event(6, 4, "/", watch.Below), event(6, 5, "/a", watch.Gone),
		event(6, 6, "/", watch.Below), event(6, 7, "/a", watch.Made))
	list := s.Events(7)
	if len(list) != 3 || list[1] != event(7, 3, "/a", watch.Below) || list[2] != event(7, 4, "/a", watch.Gone) {
		t.Errorf("Events(7) = %v", list)
	}
}
