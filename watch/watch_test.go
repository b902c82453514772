package watch

import (
	"bytes"
	"math"
	"math/rand"
	"slices"
	"strings"
	"testing"

	"orchard/api"
	"orchard/pith"
)

// long returns so many bytes.
func long(size int) string {
	return strings.Repeat("0123456789", size/10+1)[:size]
}

// adds adds watches.
func adds(t *testing.T, b *Book, list ...Watch) {
	t.Helper()
	for _, w := range list {
		if e := b.Add(w); e != api.OK {
			t.Fatalf("Add(%v) = %d", w, e)
		}
	}
}

// watches checks all watches of a Book.
func watches(t *testing.T, b *Book, want ...Watch) {
	t.Helper()
	if got := b.Watches(); !slices.Equal(got, want) {
		t.Errorf("Watches = %v\nwant      %v", got, want)
	}
}

// events checks the events of a session.
func events(t *testing.T, b *Book, session int, want ...Event) {
	t.Helper()
	if got := b.Events(session); !slices.Equal(got, want) {
		t.Errorf("Events(%d) = %v\nwant        %v", session, got, want)
	}
}

// unchanged runs a call, and checks that the Book is as it was.
func unchanged(t *testing.T, what string, b *Book, call func()) {
	t.Helper()
	before := b.Lay(nil)
	call()
	if !bytes.Equal(b.Lay(nil), before) {
		t.Errorf("%s: the Book changed", what)
	}
}

// refuses checks an Add that returns an error.
func refuses(t *testing.T, b *Book, w Watch, want api.Errno) {
	t.Helper()
	unchanged(t, "Add", b, func() {
		if e := b.Add(w); e != want {
			t.Errorf("Add(%v) = %d, want %d", w, e, want)
		}
	})
}

// noSessions are numbers that no session has.
func noSessions() []int {
	return []int{math.MinInt, -pith.Most, -1, 0, pith.Most + 1, pith.Most + 2, math.MaxInt}
}

// noPaths are texts that are no paths.
func noPaths() []string {
	return []string{"", "a", "/a/", "//", "//a", "/A", "/a b", "/" + strings.Repeat("x", 21), strings.Repeat("/x", 31)}
}

// P11.1: a new Book is empty, and apart from others; the numbers of the kinds.
func TestNew(t *testing.T) {
	if Made != 1 || Gone != 2 || Set != 3 || Below != 4 {
		t.Error("the numbers of the kinds")
	}
	b := New()
	watches(t, b)
	for _, session := range append(noSessions(), 1, pith.Most) {
		events(t, b, session)
	}
	adds(t, b, Watch{1, "/a", false, false})
	b.Fire("/a", Set, 1)
	watches(t, New())
	events(t, New(), 1)
}

// P11.1, P11.2, P11.3: a nil Book is empty, and nothing has an effect on it.
func TestNilBook(t *testing.T) {
	var b *Book
	for _, session := range append(noSessions(), 1, pith.Most) {
		for _, s := range append(noPaths(), "/", "/a") {
			if e := b.Add(Watch{Session: session, Path: s}); e != api.ErrArg {
				t.Errorf("Add of %d, %q = %d", session, s, e)
			}
			b.Fire(s, Gone, 1)
		}
		b.Noted(session, 1)
		b.Drop(session)
		events(t, b, session)
	}
	watches(t, b)
	if got := b.Lay([]byte("b")); string(got) != "b"+strings.Repeat("\x00", 18) {
		t.Errorf("Lay = %x", got)
	}
	c := b.Clone()
	if c == nil {
		t.Fatal("a copy of nil is nil")
	}
	watches(t, c)
	adds(t, c, Watch{1, "/a", false, false})
	c.Fire("/a", Set, 1)
	events(t, c, 1, Event{1, 1, "/a", Set, 1})
	watches(t, b.Clone())
}

// P11.1: which sessions and paths a watch may have.
func TestAddErrors(t *testing.T) {
	b := New()
	for range 2 {
		for _, kids := range []bool{false, true} {
			for _, once := range []bool{false, true} {
				for _, session := range noSessions() {
					refuses(t, b, Watch{session, "/a", kids, once}, api.ErrArg)
					refuses(t, b, Watch{session, "//", kids, once}, api.ErrArg)
				}
				for _, s := range noPaths() {
					refuses(t, b, Watch{1, s, kids, once}, api.ErrPath)
					refuses(t, b, Watch{pith.Most, s, kids, once}, api.ErrPath)
				}
			}
		}
		adds(t, b, Watch{1, "/a", false, false}, Watch{pith.Most, "/", true, true})
	}
	adds(t, b, Watch{2, strings.Repeat("/x", 30), false, false})
	watches(t, b, Watch{1, "/a", false, false}, Watch{2, strings.Repeat("/x", 30), false, false}, Watch{pith.Most, "/", true, true})
}

// P11.1: watches are sorted by Session, Path, Kids, Once, in whatever order they are added.
func TestWatches(t *testing.T) {
	var want []Watch
	for _, session := range []int{1, 2, 10} {
		for _, s := range []string{"/", "/a", "/a-", "/a/b"} {
			want = append(want, Watch{session, s, false, true}, Watch{session, s, true, false})
		}
	}
	want = append(want, Watch{pith.Most, "/a", false, false}, Watch{pith.Most, "/a", false, true},
		Watch{pith.Most, "/a", true, false}, Watch{pith.Most, "/a", true, true})
	for seed := range 20 {
		b := New()
		for _, i := range rand.New(rand.NewSource(int64(seed))).Perm(len(want)) {
			adds(t, b, want[i])
		}
		watches(t, b, want...)
	}
}

// P11.1: a watch that exists already has no effect; one that differs in one field is another.
func TestAddAgain(t *testing.T) {
	b := New()
	first := Watch{5, "/a", false, false}
	adds(t, b, first)
	unchanged(t, "Add again", b, func() { adds(t, b, first, first) })
	others := []Watch{{5, "/a", false, true}, {5, "/a", true, false}, {5, "/b", false, false}, {6, "/a", false, false}}
	for i, w := range others {
		adds(t, b, w)
		if n := len(b.Watches()); n != i+2 {
			t.Errorf("%d watches with %v", n, w)
		}
	}
	unchanged(t, "Add all again", b, func() { adds(t, b, append(others, first)...) })
	b.Fire("/a", Set, 1)
	events(t, b, 6, Event{6, 1, "/a", Set, 1})
	unchanged(t, "Add with events", b, func() { adds(t, b, Watch{6, "/a", false, false}) })
}

// P11.1: forty watches, and one more; the other errors are returned before ErrQuota.
func TestQuota(t *testing.T) {
	b := New()
	for i := range 40 {
		adds(t, b, Watch{40 - i, "/a", i%2 == 0, i%3 == 0})
	}
	all := b.Watches()
	if len(all) != 40 {
		t.Fatalf("%d watches", len(all))
	}
	refuses(t, b, Watch{1, "/b", false, false}, api.ErrQuota)
	refuses(t, b, Watch{41, "/", true, true}, api.ErrQuota)
	refuses(t, b, Watch{all[7].Session, "/a", all[7].Kids, !all[7].Once}, api.ErrQuota)
	refuses(t, b, Watch{0, "/b", false, false}, api.ErrArg)
	refuses(t, b, Watch{pith.Most + 1, "/", false, false}, api.ErrArg)
	refuses(t, b, Watch{1, "b", false, false}, api.ErrPath)
	unchanged(t, "those that exist", b, func() { adds(t, b, all...) })
	b.Drop(1)
	adds(t, b, Watch{1, "/b", false, false})
	refuses(t, b, Watch{1, "/c", false, false}, api.ErrQuota)
}

// P11.2: which change triggers a watch, and the kind of its event: for each watch of /a, by
// whether it is of Kids, and each change of each node.
func TestTriggered(t *testing.T) {
	for _, x := range []struct {
		s      string
		what   What
		of, no What // the kind of an event of a watch that is of Kids, and of one that is not; 0: none
	}{
		{"/a", Made, 0, Made}, {"/a", Gone, Gone, Gone}, {"/a", Set, 0, Set}, {"/a", Below, 0, Below},
		{"/a/b", Made, Below, 0}, {"/a/b", Gone, Below, 0}, {"/a/b", Set, 0, 0}, {"/a/b", Below, Below, 0},
		{"/a/b/c", Made, 0, 0}, {"/a/b/c", Gone, 0, 0}, {"/a/b/c", Set, 0, 0},
		{"/", Made, 0, 0}, {"/", Gone, 0, 0}, {"/", Set, 0, 0},
		{"/ab", Made, 0, 0}, {"/ab", Gone, 0, 0}, {"/ab", Set, 0, 0},
		{"/a-/b", Made, 0, 0}, {"/b/a", Gone, 0, 0}, {"/b", Made, 0, 0}, {"/b", Gone, 0, 0}, {"/b", Set, 0, 0},
	} {
		for _, once := range []bool{false, true} {
			for kids, kind := range map[bool]What{true: x.of, false: x.no} {
				b, w := New(), Watch{5, "/a", kids, once}
				adds(t, b, w)
				b.Fire(x.s, x.what, 7)
				if kind != 0 {
					events(t, b, 5, Event{5, 1, "/a", kind, 7})
				} else {
					events(t, b, 5)
				}
				if kind != 0 && once {
					watches(t, b)
				} else {
					watches(t, b, w)
				}
			}
		}
	}
}

// P11.2: the root is below nothing, and its Kids are the nodes next below it.
func TestRoot(t *testing.T) {
	b := New()
	adds(t, b, Watch{1, "/", false, false}, Watch{2, "/", true, false})
	for i, s := range []string{"/", "/a", "/a/b"} {
		for k, what := range []What{Made, Set, Gone} {
			b.Fire(s, what, 10*i+k)
		}
	}
	events(t, b, 1, Event{1, 1, "/", Made, 0}, Event{1, 2, "/", Set, 1}, Event{1, 3, "/", Gone, 2})
	events(t, b, 2, Event{2, 1, "/", Gone, 2}, Event{2, 2, "/", Below, 10}, Event{2, 3, "/", Below, 12})
}

// P11.2: a watch that is Once is removed by its first event, and only by that.
func TestOnce(t *testing.T) {
	b := New()
	adds(t, b, Watch{1, "/a", false, true}, Watch{1, "/a", true, true}, Watch{1, "/b", false, true})
	b.Fire("/a", Set, 1)
	b.Fire("/a", Set, 2)
	events(t, b, 1, Event{1, 1, "/a", Set, 1})
	watches(t, b, Watch{1, "/a", true, true}, Watch{1, "/b", false, true})
	b.Fire("/a/b", Set, 3)
	b.Fire("/a/b", Made, 4)
	b.Fire("/a/b", Gone, 5)
	b.Fire("/a", Gone, 6)
	events(t, b, 1, Event{1, 1, "/a", Set, 1}, Event{1, 2, "/a", Below, 4})
	watches(t, b, Watch{1, "/b", false, true})
	adds(t, b, Watch{1, "/a", false, true})
	b.Fire("/a", Made, 7)
	events(t, b, 1, Event{1, 1, "/a", Set, 1}, Event{1, 2, "/a", Below, 4}, Event{1, 3, "/a", Made, 7})
}

// P11.2: a change that triggers several watches, of one session and of others.
func TestSeveral(t *testing.T) {
	b := New()
	for _, session := range []int{2, pith.Most, 1} {
		for _, kids := range []bool{true, false} {
			adds(t, b, Watch{session, "/a", kids, true}, Watch{session, "/a", kids, false})
		}
		adds(t, b, Watch{session, "/", true, true}, Watch{session, "/a/b", false, false})
	}
	b.Fire("/a", Gone, 9)
	for _, session := range []int{1, 2, pith.Most} {
		events(t, b, session, Event{session, 1, "/", Below, 9}, Event{session, 2, "/a", Gone, 9}, Event{session, 3, "/a", Gone, 9},
			Event{session, 4, "/a", Gone, 9}, Event{session, 5, "/a", Gone, 9})
	}
	watches(t, b, Watch{1, "/a", false, false}, Watch{1, "/a", true, false}, Watch{1, "/a/b", false, false},
		Watch{2, "/a", false, false}, Watch{2, "/a", true, false}, Watch{2, "/a/b", false, false},
		Watch{pith.Most, "/a", false, false}, Watch{pith.Most, "/a", true, false}, Watch{pith.Most, "/a/b", false, false})
	b.Noted(1, 5)
	b.Noted(2, 4)
	b.Fire("/a/b", Made, 10)
	events(t, b, 1, Event{1, 6, "/a", Below, 10}, Event{1, 7, "/a/b", Made, 10})
	events(t, b, 2, Event{2, 5, "/a", Gone, 9}, Event{2, 6, "/a", Below, 10}, Event{2, 7, "/a/b", Made, 10})
}

// P11.2: When is what it is given, and the numbers of sessions are apart.
func TestWhen(t *testing.T) {
	b := New()
	adds(t, b, Watch{1, "/a", false, false}, Watch{2, "/b", false, false})
	for _, when := range []int{3, 1, 0, -1, math.MinInt, math.MaxInt} {
		b.Fire("/a", Set, when)
	}
	b.Fire("/b", Set, 5)
	var want []Event
	for i, when := range []int{3, 1, 0, -1, math.MinInt, math.MaxInt} {
		want = append(want, Event{1, i + 1, "/a", Set, when})
	}
	events(t, b, 1, want...)
	events(t, b, 2, Event{2, 1, "/b", Set, 5})
}

// P11.2, by its letter: whatever is no kind is the kind of the event of a watch of the node.
func TestOtherKinds(t *testing.T) {
	for _, what := range []What{-1, 0, 5, math.MaxInt} {
		b := New()
		adds(t, b, Watch{1, "/", true, false}, Watch{1, "/a", false, false}, Watch{1, "/a", true, false})
		b.Fire("/a", what, 1)
		events(t, b, 1, Event{1, 1, "/", Below, 1}, Event{1, 2, "/a", what, 1})
	}
}

// Rule 1: no text makes Fire panic.
func TestAnyText(t *testing.T) {
	b := New()
	adds(t, b, Watch{1, "/a", false, false}, Watch{1, "/a/b", false, true})
	unchanged(t, "Fire of no paths", b, func() {
		for _, s := range append(noPaths(), "\xff/\x00", strings.Repeat("/", 1000)) {
			for what := range Below + 2 {
				b.Fire(s, what, 1)
			}
		}
	})
}

// Rule 1: a Book that New did not return does not panic either.
func TestZeroBook(t *testing.T) {
	var b Book
	watches(t, b.Clone())
	events(t, &b, 1)
	b.Noted(1, 1)
	b.Drop(1)
	adds(t, &b, Watch{1, "/a", false, false})
	b.Fire("/a", Set, 1)
	events(t, &b, 1, Event{1, 1, "/a", Set, 1})
}

// P11.2: Noted removes a session's events up to a No; the next No is behind the last one all the same.
func TestNoted(t *testing.T) {
	for no, left := range map[int]int{math.MinInt: 4, -1: 4, 0: 4, 1: 3, 2: 2, 3: 1, 4: 0, 5: 0, 100: 0, math.MaxInt: 0} {
		b := New()
		adds(t, b, Watch{1, "/a", false, false}, Watch{2, "/a", false, false})
		var one, two []Event
		for i := range 4 {
			b.Fire("/a", Set, 10+i)
			one = append(one, Event{1, i + 1, "/a", Set, 10 + i})
			two = append(two, Event{2, i + 1, "/a", Set, 10 + i})
		}
		b.Noted(1, no)
		events(t, b, 1, one[4-left:]...)
		events(t, b, 2, two...)
		unchanged(t, "Noted again", b, func() { b.Noted(1, no) })
		unchanged(t, "Noted of other sessions", b, func() {
			for _, session := range append(noSessions(), 3) {
				b.Noted(session, math.MaxInt)
			}
		})
		b.Fire("/a", Gone, 20)
		events(t, b, 1, append(one[4-left:], Event{1, 5, "/a", Gone, 20})...)
		if len(b.Watches()) != 2 {
			t.Error("Noted removed a watch")
		}
	}
}

// P11.2: Drop removes all of a session, whose numbering starts anew, and nothing of others.
func TestDrop(t *testing.T) {
	b := New()
	for _, session := range []int{1, 2, 3} {
		adds(t, b, Watch{session, "/a", false, false}, Watch{session, "/b", true, true})
	}
	b.Fire("/a", Made, 1)
	b.Fire("/a", Set, 2)
	b.Noted(2, 1)
	b.Drop(2)
	events(t, b, 2)
	watches(t, b, Watch{1, "/a", false, false}, Watch{1, "/b", true, true}, Watch{3, "/a", false, false}, Watch{3, "/b", true, true})
	unchanged(t, "Drop again, and of other sessions", b, func() {
		for _, session := range append(noSessions(), 2, 4) {
			b.Drop(session)
		}
	})
	b.Fire("/a", Set, 3)
	events(t, b, 2)
	adds(t, b, Watch{2, "/a", false, false})
	b.Fire("/a", Gone, 4)
	events(t, b, 2, Event{2, 1, "/a", Gone, 4})
	events(t, b, 3, Event{3, 1, "/a", Made, 1}, Event{3, 2, "/a", Set, 2}, Event{3, 3, "/a", Set, 3}, Event{3, 4, "/a", Gone, 4})
	events(t, b, 1, Event{1, 1, "/a", Made, 1}, Event{1, 2, "/a", Set, 2}, Event{1, 3, "/a", Set, 3}, Event{1, 4, "/a", Gone, 4})
	b.Noted(1, 4)
	b.Drop(1)
	adds(t, b, Watch{1, "/a", false, false})
	b.Fire("/a", Made, 5)
	events(t, b, 1, Event{1, 1, "/a", Made, 5})
}

// P11.1, P11.2, with rule 4: who changes a result does not change the Book.
func TestResultsAreNew(t *testing.T) {
	b := several(t)
	unchanged(t, "a result", b, func() {
		b.Watches()[0] = Watch{}
		b.Events(2)[0] = Event{}
	})
	before, noted := b.Watches(), b.Events(2)
	kept, heard := slices.Clone(before), slices.Clone(noted)
	b.Drop(1)
	b.Noted(2, 2)
	b.Fire("/a", Gone, 99)
	adds(t, b, Watch{1, "/", false, false})
	if !slices.Equal(before, kept) || !slices.Equal(noted, heard) {
		t.Error("a result changed with the Book")
	}
}

// P11.3: a copy has the same watches and events, and neither changes with the other.
func TestClone(t *testing.T) {
	for what, change := range map[string]func(b *Book){
		"Add":    func(b *Book) { adds(t, b, Watch{1, "/", false, false}) },
		"Fire":   func(b *Book) { b.Fire("/a", Gone, 77) },
		"Noted":  func(b *Book) { b.Noted(2, 2) },
		"Drop":   func(b *Book) { b.Drop(2) },
		"Drop 1": func(b *Book) { b.Drop(1) },
	} {
		b := several(t)
		c := b.Clone()
		if !bytes.Equal(b.Lay(nil), c.Lay(nil)) {
			t.Fatal("a copy differs")
		}
		unchanged(t, what+" of a copy", b, func() { change(c) })
		d := b.Clone()
		unchanged(t, what+" of what was copied", d, func() { change(b) })
		if !bytes.Equal(b.Lay(nil), c.Lay(nil)) || bytes.Equal(b.Lay(nil), d.Lay(nil)) {
			t.Error(what + ": of a copy it has another effect")
		}
	}
	c := New().Clone()
	adds(t, c, Watch{1, "/a", false, false})
	c.Fire("/a", Set, 1)
	events(t, c, 1, Event{1, 1, "/a", Set, 1})
}
