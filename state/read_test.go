package state

import (
	"slices"
	"strings"
	"testing"

	"orchard/api"
	"orchard/op"
	"orchard/pith"
	"orchard/sess"
	"orchard/tree"
	"orchard/watch"
)

// laid is the encoding by the letter of P13.2.
func laid(at int, nodes *tree.Tree, table *sess.Table, book *watch.Book) string {
	out := string(pith.Num(nil, at))
	out += string(nodes.Lay(nil))
	out += string(table.Lay(nil))
	return out + string(book.Lay(nil))
}

// several returns a state that has some of everything, and its encoding, put together by hand.
func several(t *testing.T) (*State, string) {
	t.Helper()
	s := New()
	opens(t, s, 2, 1, 300)
	watches(t, s, watch.Watch{Session: 1, Path: "/a"})
	watches(t, s, watch.Watch{Session: 300, Path: "/", Kids: true, Once: true})
	updates(t, s, 2, op.Op{Does: op.Create, Path: "/a", Data: "x"}, owns("/a/own"))
	updates(t, s, 2, set("/a"), op.Op{Does: op.Create, Path: "/a/n", Serial: true})
	applies(t, s, op.Made(2, 9, set("/a"), gone("/b")), op.Result{E: api.ErrNode, At: 1, When: 8})
	nodes := tree.New()
	nodes.Create("/a", "x", 0, 6, false)
	nodes.Create("/a/own", "", 2, 6, false)
	nodes.Set("/a", "", -1, 7)
	nodes.Create("/a/n", "", 0, 7, true)
	table := sess.New()
	for _, id := range []int{1, 2, 300} {
		table.Open(id)
	}
	table.Keep(1, 1, op.Result{When: 4}.Bytes())
	table.Keep(300, 1, op.Result{When: 5}.Bytes())
	table.Keep(2, 9, op.Result{E: api.ErrNode, At: 1, When: 8}.Bytes())
	book := watch.New()
	book.Add(watch.Watch{Session: 1, Path: "/a"})
	book.Add(watch.Watch{Session: 300, Path: "/", Kids: true, Once: true})
	book.Fire("/a", watch.Made, 6)
	book.Fire("/a/own", watch.Made, 6)
	book.Fire("/a", watch.Set, 7)
	book.Fire("/a/n0000000000", watch.Made, 7)
	return s, laid(8, nodes, table, book)
}

// P13.2: the encoding, by its letter.
func TestBytes(t *testing.T) {
	s, want := several(t)
	for range 3 {
		if got := s.Bytes(); got != want {
			t.Errorf("Bytes = %x\nwant    %x", got, want)
		}
	}
	six := func(n byte) string { return "\x00\x00\x00\x00\x00" + string([]byte{n}) }
	root := "\x00\x01/" + "\x00\x00" + strings.Repeat("\x00", 36)
	want = six(0) + six(1) + root + six(0) + six(0) + six(0) + six(0)
	if got := New().Bytes(); got != want {
		t.Errorf("Bytes of New = %x\nwant    %x", got, want)
	}
	one := New()
	one.Apply("")
	if got := one.Bytes(); got != six(1)+want[6:] {
		t.Errorf("Bytes = %x", got)
	}
}

// P13.2: a state that is read is that whose Bytes are the text, and goes on as that does.
func TestRead(t *testing.T) {
	s, text := several(t)
	u, e := Read(text)
	if e != api.OK || u.Bytes() != text || !u.Is(s) || !s.Is(u) || u.At() != 8 || !u.Same(s.Tree) {
		t.Fatalf("Read: %d, %v", e, u)
	}
	sessions(t, u, 1, 2, 300)
	events(t, u, 1, s.Events(1)...)
	events(t, u, 300, s.Events(300)...)
	kept(t, u, 2, 9, op.Result{E: api.ErrNode, At: 1, When: 8}, true, api.OK)
	if !slices.Equal(u.Watches(), s.Watches()) || len(u.Watches()) != 1 {
		t.Errorf("Watches = %v", u.Watches())
	}
	for _, c := range []op.Cmd{
		op.Made(2, 9), op.Made(2, 8), op.Made(2, 10, set("/a"), op.Op{Does: op.Create, Path: "/a/n", Serial: true}),
		{Kind: op.Sync, Session: 1, Req: 2, Noted: 1}, {Kind: op.Watch, Session: 1, Req: 3, Path: "/", Kids: true},
		op.Made(300, 2, makes("/c")), {Kind: op.Close, Session: 2, Req: 11}, {Kind: op.Open, Session: 2}, op.Made(2, 1),
	} {
		text, _ := c.Bytes()
		a, b := s.Apply(text), u.Apply(text)
		if !a.Same(b) || !s.Is(u) {
			t.Errorf("%v: %v, %v", c, a, b)
		}
	}
	events(t, u, 1, watch.Event{Session: 1, No: 2, Path: "/a", What: watch.Set, When: 7},
		watch.Event{Session: 1, No: 3, Path: "/a", What: watch.Set, When: 11},
		watch.Event{Session: 1, No: 4, Path: "/", What: watch.Below, When: 14})
}

// P13.2: New and states of the greatest numbers are read, too.
func TestReadLimits(t *testing.T) {
	table, nodes := sess.New(), tree.New()
	for id := range 16 {
		table.Open(pith.Most - id)
		table.Keep(pith.Most-id, pith.Most, op.Result{E: 1024, At: 4, When: pith.Most, Outs: slices.Repeat([]op.Out{{Version: pith.Most}}, 4)}.Bytes())
	}
	for nodes.Len() < 60 {
		nodes.Create("/n", strings.Repeat("d", 60), pith.Most, pith.Most, true)
	}
	book := watch.New()
	for i := range 40 {
		book.Add(watch.Watch{Session: pith.Most, Path: "/" + strings.Repeat("x", i%20+1), Kids: i < 20})
	}
	for _, at := range []int{0, 1, pith.Most} {
		for _, text := range []string{laid(at, tree.New(), sess.New(), watch.New()), laid(at, nodes, table, book)} {
			s, e := Read(text)
			if e != api.OK || s.Bytes() != text || s.At() != at {
				t.Errorf("Read at %d: %d", at, e)
			}
		}
	}
}

// P13.2: what is not the Bytes of a state is ErrForm, with nothing beside it.
func TestReadRefuses(t *testing.T) {
	check := func(what, text string) {
		t.Helper()
		if s, e := Read(text); s != nil || e != api.ErrForm {
			t.Errorf("%s: %.40x: %v, %d", what, text, s, e)
		}
	}
	check("nothing", "")
	check("a text", strings.Repeat("no state ", 100))
	check("zeros", strings.Repeat("\x00", 36))
	_, text := several(t)
	for _, whole := range []string{text, New().Bytes()} {
		for size := range len(whole) {
			check("truncated", whole[:size])
		}
		check("extended", whole+"\x00")
		check("twice", whole+whole)
		check("not at the start", "\x00"+whole)
	}
	var nothing *State
	check("nil", nothing.Bytes())
	var noTree *tree.Tree
	check("no tree", laid(1, noTree, sess.New(), watch.New()))
	check("in another order", string(pith.Num(nil, 1))+string(sess.New().Lay(nil))+string(tree.New().Lay(nil))+string(watch.New().Lay(nil)))
}

// P13.2: with a byte changed, an encoding is that of another state, or of none.
func TestReadChanged(t *testing.T) {
	whole, text := several(t)
	for at := range len(text) {
		for _, bit := range []byte{1, 4, 16, 128, 255} {
			b := []byte(text)
			b[at] ^= bit
			s, e := Read(string(b))
			switch {
			case e == api.ErrForm && s == nil:
			case e == api.OK && s.Bytes() == string(b) && !s.Is(whole):
				s.Apply("") // it is a state that goes on
			default:
				t.Fatalf("byte %d, %x: %v, %d", at, bit, s, e)
			}
		}
	}
}

// P13.2: an answer that is read and is no result is no stored result, and its request is not executed.
func TestReadOtherAnswers(t *testing.T) {
	for _, answer := range []string{"", "x", op.Result{E: 1025}.Bytes(), strings.Repeat("x", 400)} {
		table := sess.New()
		table.Open(5)
		table.Keep(5, 3, answer)
		s, e := Read(laid(7, tree.New(), table, watch.New()))
		if e != api.OK {
			t.Fatalf("Read with an answer of %q: %d", answer, e)
		}
		kept(t, s, 5, 3, op.Result{}, false, api.ErrForm)
		kept(t, s, 5, 2, op.Result{}, false, api.ErrOld)
		kept(t, s, 5, 4, op.Result{}, false, api.OK)
		changesOnly(t, s, text(t, op.Made(5, 3, makes("/a"))), op.Result{E: api.ErrForm, When: 8})
		applies(t, s, op.Made(5, 4, makes("/a")), op.Result{Outs: []op.Out{{Path: "/a"}}, When: 9})
	}
}

// P13.2: Is compares all that Bytes has.
func TestIs(t *testing.T) {
	a, _ := several(t)
	for i, change := range []func(s *State){
		func(s *State) { s.Apply("") },
		func(s *State) { s.Set("/a", "", -1, 9) },
		func(s *State) { s.table.Open(9) },
		func(s *State) { s.table.Keep(1, 99, "") },
		func(s *State) { s.book.Add(watch.Watch{Session: 1, Path: "/"}) },
		func(s *State) { s.book.Fire("/a", watch.Set, 1) },
		func(s *State) { s.book.Noted(1, 1) },
		func(s *State) { s.book.Drop(300) },
	} {
		b, _ := several(t)
		if !a.Is(b) || !b.Is(a) || !a.Is(a) {
			t.Fatal("two equal states differ")
		}
		change(b)
		if a.Is(b) || b.Is(a) {
			t.Errorf("change %d is not seen", i)
		}
	}
}

// P13.2: a copy does not change with the original, nor the original with a copy.
func TestClone(t *testing.T) {
	commands := []op.Cmd{
		{}, {Kind: op.Open, Session: 9}, {Kind: op.Close, Session: 2, Req: 10}, op.Made(2, 10, set("/a"), makes("/new"), gone("/a/own")),
		{Kind: op.Watch, Session: 1, Req: 2, Path: "/a", Kids: true}, {Kind: op.Sync, Session: 1, Req: 9, Noted: 1},
		op.Made(2, 10, set("/a"), set("/a"), set("/a"), set("/a")), op.Made(2, 10, set("/q")),
	}
	for _, c := range commands {
		s, want := several(t)
		copied := s.Clone()
		if !copied.Is(s) || copied.Bytes() != want {
			t.Fatal("the copy differs")
		}
		a := copied.Apply(text(t, c))
		if s.Bytes() != want {
			t.Errorf("%v of the copy changed the original", c)
		}
		other := s.Clone()
		b := s.Apply(text(t, c))
		if other.Bytes() != want {
			t.Errorf("%v of the original changed the copy", c)
		}
		if !a.Same(b) || !s.Is(copied) {
			t.Errorf("%v: %v of the copy, %v of the original", c, a, b)
		}
		// the promoted methods, too, change one of them alone
		s.Set("/a", "direct", -1, 1)
		if n, _ := copied.Get("/a"); n.Data == "direct" {
			t.Error("the copy shares its nodes")
		}
	}
}
