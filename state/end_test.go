package state

import (
	"testing"

	"orchard/api"
	"orchard/op"
	"orchard/pith"
	"orchard/sess"
	"orchard/tree"
	"orchard/watch"
)

// P13.1: Close ends a session with its own nodes, the last path first, its watches and its events;
// those of others remain, and are told. Opened again, it starts anew.
func TestClose(t *testing.T) {
	s := New()
	opens(t, s, 1, 2, 3)
	updates(t, s, 1, makes("/a"), owns("/a/own"), owns("/b"), owns("/c"))
	updates(t, s, 2, owns("/a/other"))
	for _, id := range []int{1, 2} {
		watches(t, s, watch.Watch{Session: id, Path: "/a", Kids: true})
		watches(t, s, watch.Watch{Session: id, Path: "/b"})
		watches(t, s, watch.Watch{Session: id, Path: "/c", Once: true})
	}
	updates(t, s, 3, set("/b"))
	set := watch.Event{Session: 2, No: 1, Path: "/b", What: watch.Set, When: s.At()}
	applies(t, s, op.Cmd{Kind: op.Close, Session: 1, Req: 5}, op.Result{When: 13})
	sessions(t, s, 2, 3)
	paths(t, s, "/a", "/a/other")
	gets(t, s, "/", tree.Node{Below: 5})
	gets(t, s, "/a", tree.Node{Below: 3, Made: 4, Set: 4})
	gets(t, s, "/a/other", tree.Node{Owner: 2, Made: 5, Set: 5})
	events(t, s, 1)
	events(t, s, 2, set, watch.Event{Session: 2, No: 2, Path: "/c", What: watch.Gone, When: 13},
		watch.Event{Session: 2, No: 3, Path: "/b", What: watch.Gone, When: 13},
		watch.Event{Session: 2, No: 4, Path: "/a", What: watch.Below, When: 13})
	if got := s.Watches(); len(got) != 2 || got[0].Session != 2 || got[1].Session != 2 || got[0].Once || got[1].Once {
		t.Errorf("Watches = %v", got)
	}
	kept(t, s, 1, 5, op.Result{}, false, api.ErrSession)
	applies(t, s, op.Cmd{Kind: op.Close, Session: 1, Req: 5}, op.Result{E: api.ErrSession, When: 14})
	opens(t, s, 1)
	kept(t, s, 1, 1, op.Result{}, false, api.OK)
	watches(t, s, watch.Watch{Session: 1, Path: "/a"})
	updates(t, s, 3, gone("/a/other"), gone("/a"))
	events(t, s, 1, watch.Event{Session: 1, No: 1, Path: "/a", What: watch.Gone, When: s.At()})
}

// P13.1: Close of a session that has nothing, and of all of them.
func TestClosePlain(t *testing.T) {
	s := New()
	opens(t, s, 1, pith.Most)
	applies(t, s, op.Cmd{Kind: op.Close, Session: 1, Req: pith.Most, Noted: pith.Most, Ops: []op.Op{makes("/a")}, Path: "/a"}, op.Result{When: 3})
	applies(t, s, op.Cmd{Kind: op.Close, Session: pith.Most, Req: 1}, op.Result{When: 4})
	sessions(t, s)
	want := New()
	for range 4 {
		want.Apply("")
	}
	if !s.Is(want) {
		t.Error("something remains of the sessions")
	}
}

// sets lets a session set a node so many times, once each command.
func sets(t *testing.T, s *State, session int, path string, times int) {
	t.Helper()
	for range times {
		updates(t, s, session, set(path))
	}
}

// P13.1: a session has five events, and with the sixth it ends, with all that is its own.
func TestSixEvents(t *testing.T) {
	s := New()
	opens(t, s, 1, 2, 3)
	updates(t, s, 1, makes("/a"))
	updates(t, s, 2, owns("/own"))
	watches(t, s, watch.Watch{Session: 2, Path: "/a"})
	watches(t, s, watch.Watch{Session: 2, Path: "/b"})
	watches(t, s, watch.Watch{Session: 3, Path: "/own"})
	sets(t, s, 1, "/a", 5)
	sessions(t, s, 1, 2, 3)
	paths(t, s, "/a", "/own")
	if len(s.Events(2)) != 5 {
		t.Errorf("Events = %v", s.Events(2))
	}
	ends := s.Clone()
	sets(t, ends, 1, "/a", 1)
	sessions(t, ends, 1, 3)
	paths(t, ends, "/a")
	events(t, ends, 2)
	events(t, ends, 3, watch.Event{Session: 3, No: 1, Path: "/own", What: watch.Gone, When: ends.At()})
	if got := ends.Watches(); len(got) != 1 || got[0].Session != 3 {
		t.Errorf("Watches = %v", got)
	}
	kept(t, ends, 2, 9, op.Result{}, false, api.ErrSession)
	// with one of the five noted there is room for another one
	succeeds(t, s, op.Cmd{Kind: op.Sync, Session: 2, Req: 9, Noted: 1})
	sets(t, s, 1, "/a", 1)
	sessions(t, s, 1, 2, 3)
	sets(t, s, 1, "/a", 1)
	sessions(t, s, 1, 3)
}

// P13.1: six events by one command; the session can be the command's own, which has its result.
func TestSixAtOnce(t *testing.T) {
	s := New()
	opens(t, s, 4)
	updates(t, s, 4, makes("/a"), owns("/own"))
	for _, w := range []watch.Watch{{Path: "/a"}, {Path: "/a", Once: true}} {
		w.Session = 4
		watches(t, s, w)
	}
	applies(t, s, op.Made(4, 7, set("/a"), set("/a"), set("/a"), set("/a")), op.Result{When: 5,
		Outs: []op.Out{{Path: "/a", Version: 1}, {Path: "/a", Version: 2}, {Path: "/a", Version: 3}, {Path: "/a", Version: 4}}})
	sessions(t, s, 4)
	watches(t, s, watch.Watch{Session: 4, Path: "/a", Once: true})
	applies(t, s, op.Made(4, 9, set("/a")), op.Result{When: 7, Outs: []op.Out{{Path: "/a", Version: 5}}})
	sessions(t, s)
	paths(t, s, "/a")
	kept(t, s, 4, 9, op.Result{}, false, api.ErrSession)
	applies(t, s, op.Made(4, 9, set("/a")), op.Result{E: api.ErrSession, When: 8})
}

// P13.1: several sessions have their sixth event at once, and the end of one gives a session that
// comes before it its sixth: that one then ends before the others.
func TestSeveralEnd(t *testing.T) {
	s := New()
	opens(t, s, 1, 3, 5, 7, 9)
	for _, x := range []struct {
		id   int
		path string
	}{{1, "/own1"}, {3, "/own3"}, {5, "/own5"}} {
		updates(t, s, x.id, owns(x.path))
		watches(t, s, watch.Watch{Session: 9, Path: x.path})
	}
	updates(t, s, 7, makes("/x"), makes("/y"))
	watches(t, s, watch.Watch{Session: 1, Path: "/y"})
	watches(t, s, watch.Watch{Session: 1, Path: "/own3"})
	watches(t, s, watch.Watch{Session: 3, Path: "/x"})
	watches(t, s, watch.Watch{Session: 5, Path: "/x"})
	sets(t, s, 7, "/y", 5)
	sets(t, s, 7, "/x", 5)
	sessions(t, s, 1, 3, 5, 7, 9)
	sets(t, s, 7, "/x", 1)
	sessions(t, s, 7, 9)
	paths(t, s, "/x", "/y")
	gone := func(no int, path string) watch.Event {
		return watch.Event{Session: 9, No: no, Path: path, What: watch.Gone, When: s.At()}
	}
	events(t, s, 9, gone(1, "/own3"), gone(2, "/own1"), gone(3, "/own5"))
	gets(t, s, "/", tree.Node{Below: 8})
}

// P13.1: a chain of ends, each of which gives the next session its sixth event, started by a Close.
func TestChainOfEnds(t *testing.T) {
	s := New()
	ids := []int{4, 2, 8, 6}
	opens(t, s, append(ids, 9)...)
	own := []string{"/own4", "/own2", "/own8", "/own6"}
	for i, id := range ids {
		updates(t, s, id, owns(own[i]))
		if i > 0 {
			watches(t, s, watch.Watch{Session: id, Path: own[i-1]})
			watches(t, s, watch.Watch{Session: id, Path: "/"})
		}
	}
	sets(t, s, 9, "/", 5)
	whole := s.Clone()
	applies(t, s, op.Cmd{Kind: op.Close, Session: 4, Req: 9}, op.Result{When: s.At() + 1})
	sessions(t, s, 9)
	paths(t, s)
	// without its first part there is no chain
	applies(t, whole, op.Made(4, 9, op.Op{Does: op.Check, Path: "/"}), op.Result{E: api.ErrVersion, When: whole.At() + 1})
	sessions(t, whole, 2, 4, 6, 8, 9)
	// and in the middle, it does not go back
	applies(t, whole, op.Cmd{Kind: op.Close, Session: 2, Req: 9}, op.Result{When: whole.At() + 1})
	sessions(t, whole, 4, 9)
	paths(t, whole, "/own4")
}

// overflowing returns a state in which session 3 has so many events, put together from its encoding.
func overflowing(t *testing.T, count int) *State {
	t.Helper()
	table, book, nodes := sess.New(), watch.New(), tree.New()
	for _, id := range []int{3, 5} {
		if e := table.Open(id); e != api.OK {
			t.Fatal(e)
		}
	}
	if e := table.Keep(5, 4, op.Result{E: api.ErrKids, When: 2}.Bytes()); e != api.OK {
		t.Fatal(e)
	}
	book.Add(watch.Watch{Session: 3, Path: "/"})
	for when := range count {
		book.Fire("/", watch.Set, when)
	}
	nodes.Create("/own", "", 3, 1, false)
	s, e := Read(string(book.Lay(table.Lay(nodes.Lay(pith.Num(nil, 20))))))
	if e != api.OK {
		t.Fatal(e)
	}
	return s
}

// P13.1: sessions with more than five events end after each command, whatever it is and becomes.
func TestAfterEachCommand(t *testing.T) {
	commands := []string{"", "no command"}
	for _, c := range []op.Cmd{{}, {Kind: op.Open, Session: 1}, {Kind: op.Open, Session: 5}, op.Made(9, 1), op.Made(5, 0),
		op.Made(5, 3), op.Made(5, 4), op.Made(5, 5), op.Made(5, 5, makes("/")), {Kind: op.Sync, Session: 5, Req: 5},
		{Kind: op.Watch, Session: 5, Req: 5, Path: "/a"}, {Kind: op.Watch, Session: 5, Req: 5}, {Kind: op.Close, Session: 5, Req: 5}} {
		commands = append(commands, text(t, c))
	}
	for _, command := range commands {
		for count := 4; count < 9; count++ {
			s := overflowing(t, count)
			s.Apply(command)
			if s.Has(3) != (count <= 5) || (len(s.Paths()) == 2) != (count <= 5) {
				t.Errorf("%d events, %.20x: %d, %q", count, command, s.Sessions(), s.Paths())
			}
		}
	}
	s := overflowing(t, 9)
	applies(t, s, op.Made(3, 1, set("/")), op.Result{Outs: []op.Out{{Path: "/", Version: 1}}, When: 21})
	sessions(t, s, 5)
	s = overflowing(t, 9)
	applies(t, s, op.Cmd{Kind: op.Sync, Session: 3, Req: 1, Noted: 4}, op.Result{When: 21})
	sessions(t, s, 3, 5)
}
