package watch

import (
	"bytes"
	"math"
	"slices"
	"strconv"
	"strings"
	"testing"

	"orchard/api"
	"orchard/pith"
)

// form is what a Book is encoded from.
type form struct {
	watches []Watch
	events  []Event
	last    []lastNo
}

// lastNo is the last No of a session.
type lastNo struct{ session, no int }

// laid is the encoding by the letter of P11.3.
func (f form) laid() string {
	b := pith.Num(nil, len(f.watches))
	for _, w := range f.watches {
		b = pith.Num(b, w.Session)
		b = pith.Text(b, w.Path)
		b = pith.Flag(b, w.Kids)
		b = pith.Flag(b, w.Once)
	}
	b = pith.Num(b, len(f.events))
	for _, e := range f.events {
		b = pith.Num(b, e.Session)
		b = pith.Num(b, e.No)
		b = pith.Text(b, e.Path)
		b = pith.Num(b, int(e.What))
		b = pith.Num(b, e.When)
	}
	b = pith.Num(b, len(f.last))
	for _, x := range f.last {
		b = pith.Num(b, x.session)
		b = pith.Num(b, x.no)
	}
	return string(b)
}

// several returns a Book of three sessions: one without events, one that noted some, and one
// that noted all.
func several(t *testing.T) *Book {
	t.Helper()
	b := New()
	adds(t, b, Watch{300, "/a", true, false}, Watch{2, "/a", true, true}, Watch{2, "/a", false, false},
		Watch{1, "/a/b", false, true}, Watch{300, "/", true, true})
	b.Fire("/a", Made, 5)
	b.Fire("/a/c", Made, 6)
	b.Fire("/a", Set, 258)
	b.Noted(2, 1)
	b.Fire("/a", Gone, 259)
	b.Noted(300, 3)
	return b
}

// P11.3: the encoding, by its letter.
func TestLay(t *testing.T) {
	b := several(t)
	want := form{
		[]Watch{{1, "/a/b", false, true}, {2, "/a", false, false}, {300, "/a", true, false}},
		[]Event{{2, 2, "/a", Below, 6}, {2, 3, "/a", Set, 258}, {2, 4, "/a", Gone, 259}},
		[]lastNo{{2, 4}, {300, 3}},
	}.laid()
	for range 3 {
		if got := b.Lay(nil); string(got) != want {
			t.Errorf("Lay = %x\nwant  %x", got, want)
		}
	}
	if got := b.Lay([]byte("head")); string(got) != "head"+want {
		t.Errorf("Lay behind bytes = %x", got)
	}
	if got := New().Lay([]byte{}); string(got) != strings.Repeat("\x00", 18) {
		t.Errorf("New: %x", got)
	}
	one := New()
	adds(t, one, Watch{5, "/a", true, false})
	one.Fire("/a/b", Made, 258)
	six := func(n byte) string { return "\x00\x00\x00\x00\x00" + string([]byte{n}) }
	want = six(1) + six(5) + "\x00\x02/a" + "\x01\x00" + six(1) + six(5) + six(1) + "\x00\x02/a" + six(4) +
		"\x00\x00\x00\x00\x01\x02" + six(1) + six(5) + six(1)
	if got := one.Lay(nil); string(got) != want {
		t.Errorf("one of each: %x\nwant %x", got, want)
	}
	one.Drop(5)
	if got := one.Lay(nil); string(got) != strings.Repeat("\x00", 18) {
		t.Errorf("after Drop: %x", got)
	}
}

// P11.3: events are in the order in which they were added, whatever their sessions are.
func TestLayOrder(t *testing.T) {
	b := New()
	for _, session := range []int{7, 1, 4} {
		adds(t, b, Watch{session, "/s" + strconv.Itoa(session), false, false}, Watch{session, "/all", false, false})
	}
	for when, s := range []string{"/s7", "/s4", "/all", "/s1", "/s7"} {
		b.Fire(s, Set, when)
	}
	want := form{
		b.Watches(),
		[]Event{{7, 1, "/s7", Set, 0}, {4, 1, "/s4", Set, 1}, {1, 1, "/all", Set, 2}, {4, 2, "/all", Set, 2},
			{7, 2, "/all", Set, 2}, {1, 2, "/s1", Set, 3}, {7, 3, "/s7", Set, 4}},
		[]lastNo{{1, 2}, {4, 2}, {7, 3}},
	}.laid()
	if got := string(b.Lay(nil)); got != want {
		t.Errorf("Lay = %x\nwant  %x", got, want)
	}
	if got := string(reads(t, "the order", want).Lay(nil)); got != want {
		t.Errorf("read and laid: %x\nwant  %x", got, want)
	}
}

// P11.3, with P1.1: numbers that cannot be encoded are the nearest that can.
func TestLayBounds(t *testing.T) {
	b := New()
	adds(t, b, Watch{1, "/a", false, false})
	b.Fire("/a", Set, math.MinInt)
	b.Fire("/a", Set, math.MaxInt)
	want := form{b.Watches(), []Event{{1, 1, "/a", Set, 0}, {1, 2, "/a", Set, pith.Most}}, []lastNo{{1, 2}}}.laid()
	if got := string(b.Lay(nil)); got != want {
		t.Errorf("Lay = %x\nwant  %x", got, want)
	}
}

// P11.3, with rule 4: out is not modified, not even behind its end, and the result shares nothing with it.
func TestLayIsNew(t *testing.T) {
	for _, b := range []*Book{nil, New(), several(t)} {
		whole := []byte(long(2000))
		out := b.Lay(whole[:2])
		if string(whole) != long(2000) {
			t.Error("Lay wrote to its argument")
		}
		whole[0] = 'x'
		if out[0] != '0' {
			t.Error("Lay shares its argument")
		}
		one, two := b.Lay(out), several(t).Lay(out)
		if !bytes.Equal(one, append(slices.Clone(out), b.Lay(nil)...)) || !bytes.HasPrefix(two, out) {
			t.Error("two results are shared")
		}
	}
}

// isNew checks that a Book is as New is, and works.
func isNew(t *testing.T, what string, b *Book) {
	t.Helper()
	if b == nil || !bytes.Equal(b.Lay(nil), New().Lay(nil)) {
		t.Fatalf("%s: the result is not New", what)
	}
	adds(t, b, Watch{1, "/a", false, false})
	b.Fire("/a", Set, 1)
	events(t, b, 1, Event{1, 1, "/a", Set, 1})
}

// fails checks that bytes are no Book: the reader has failed, and the result is New.
func fails(t *testing.T, what string, s string) {
	t.Helper()
	r := pith.Read(s)
	b := Read(r)
	if r.OK() || r.Done() != api.ErrForm {
		t.Errorf("%s: the reader has not failed", what)
	}
	isNew(t, what, b)
}

// reads checks that bytes are a Book, and returns it.
func reads(t *testing.T, what string, s string) *Book {
	t.Helper()
	r := pith.Read(s)
	b := Read(r)
	if r.Done() != api.OK {
		t.Fatalf("%s: the reader has failed", what)
	}
	if string(b.Lay(nil)) != s {
		t.Errorf("%s: laid again it differs", what)
	}
	return b
}

// full returns a Book of forty watches, and of 1024 events.
func full(t *testing.T) *Book {
	t.Helper()
	b := New()
	var list []Watch
	for i := range 40 {
		list = append(list, Watch{i/3 + 1, "/" + strings.Repeat("xy"[i%2:i%2+1], i/2+1), i%3 == 0, i%4 == 0})
	}
	for i := 0; len(b.events) < 1024; i++ {
		adds(t, b, list...)
		b.Fire(list[i%40].Path, Gone, i)
	}
	adds(t, b, list...)
	return b
}

// P11.3: what was laid is read, one Book after the other, and lives on its own.
func TestRead(t *testing.T) {
	books := []*Book{New(), several(t), full(t)}
	var all []byte
	for i, b := range books {
		reads(t, "Book "+strconv.Itoa(i), string(b.Lay(nil)))
		all = b.Lay(all)
	}
	r := pith.Read(string(pith.Num(all, 77)))
	for i, b := range books {
		if c := Read(r); !bytes.Equal(b.Lay(nil), c.Lay(nil)) || !r.OK() {
			t.Errorf("Book %d in a row differs", i)
		}
	}
	if r.Num(77) != 77 || r.Done() != api.OK {
		t.Error("what is behind a Book")
	}
	b := reads(t, "several", string(books[1].Lay(nil)))
	watches(t, b, books[1].Watches()...)
	events(t, b, 2, books[1].Events(2)...)
	b.Fire("/a", Gone, 9)
	events(t, b, 300, Event{300, 4, "/a", Gone, 9})
	events(t, b, 2, append(books[1].Events(2), Event{2, 5, "/a", Gone, 9})...)
	if !bytes.Equal(books[1].Lay(nil), several(t).Lay(nil)) {
		t.Error("two Books share what they have")
	}
	c := reads(t, "full", string(books[2].Lay(nil)))
	refuses(t, c, Watch{1, "/new", false, false}, api.ErrQuota)
}

// P11.3: an encoding that is truncated is none; one that is extended is followed by bytes.
func TestReadLength(t *testing.T) {
	for _, b := range []*Book{New(), several(t)} {
		s := string(b.Lay(nil))
		for size := range len(s) {
			fails(t, "of "+strconv.Itoa(size)+" bytes", s[:size])
		}
		for _, more := range []string{"\x00", "x", s} {
			r := pith.Read(s + more)
			if c := Read(r); !bytes.Equal(b.Lay(nil), c.Lay(nil)) || !r.OK() || r.Done() != api.ErrForm {
				t.Error("extended")
			}
		}
	}
}

// P11.3: whatever bit of an encoding changes, there is either no Book, or another one of this form.
func TestReadChanged(t *testing.T) {
	s := several(t).Lay(nil)
	for i := range s {
		for bit := range 8 {
			b := slices.Clone(s)
			b[i] ^= 1 << bit
			r := pith.Read(string(b))
			c := Read(r)
			again := c.Lay(nil)
			if !r.OK() && !bytes.Equal(again, New().Lay(nil)) {
				t.Errorf("byte %d, bit %d: the result is not New", i, bit)
			}
			// A lower count leaves bytes behind the Book.
			if r.OK() && (!bytes.HasPrefix(b, again) || len(again) < len(b) && r.Done() == api.OK) {
				t.Errorf("byte %d, bit %d: laid again it differs", i, bit)
			}
		}
	}
}

// P11.3: watches that are valid, in their order, each only once, and not more than there may be.
func TestReadWatches(t *testing.T) {
	var many []Watch
	for i := range 41 {
		many = append(many, Watch{i + 1, "/a", false, false})
	}
	ordered := []Watch{{1, "/", true, true}, {1, "/a", false, false}, {1, "/a", false, true}, {1, "/a", true, false}, {1, "/a", true, true},
		{1, "/a-", false, false}, {1, "/a/b", false, false}, {2, "/", false, false}, {pith.Most, strings.Repeat("/x", 30), true, false}}
	reads(t, "no watches", form{}.laid())
	reads(t, "forty watches", form{watches: many[:40]}.laid())
	reads(t, "their order", form{watches: ordered}.laid())
	fails(t, "forty-one watches", form{watches: many}.laid())
	for i := range ordered[1:] {
		swapped, doubled := slices.Clone(ordered), slices.Insert(slices.Clone(ordered), i, ordered[i])
		swapped[i], swapped[i+1] = swapped[i+1], swapped[i]
		fails(t, "another order, at "+strconv.Itoa(i), form{watches: swapped}.laid())
		fails(t, "one twice, at "+strconv.Itoa(i), form{watches: doubled}.laid())
	}
	for _, s := range noPaths() {
		fails(t, "no path, "+s, form{watches: []Watch{{1, s, false, false}}}.laid())
		fails(t, "no path behind another, "+s, form{watches: []Watch{{1, "/a", false, false}, {2, s, true, true}}}.laid())
	}
	fails(t, "a session 0", form{watches: []Watch{{0, "/a", false, false}}}.laid())
	fails(t, "a session 0 before another", form{watches: []Watch{{0, "/a", true, true}, {1, "/a", true, true}}}.laid())
	one := form{watches: ordered[1:2]}.laid()
	for i, name := range []string{"Kids", "Once"} {
		for _, flag := range []byte{2, 255} {
			b := []byte(one)
			b[6+6+2+2+i] = flag
			fails(t, name+" of "+strconv.Itoa(int(flag)), string(b))
		}
	}
}

// P11.3: events with a What up to Below, and not more than 1024.
func TestReadEvents(t *testing.T) {
	var many []Event
	for i := range 1025 {
		many = append(many, Event{1, i + 1, "/a", Set, i})
	}
	last := []lastNo{{1, 1025}}
	reads(t, "1024 events", form{events: many[:1024], last: last}.laid())
	fails(t, "1025 events", form{events: many, last: last}.laid())
	for what := range What(20) {
		s := form{events: []Event{{1, 1, "/a", what, 1}}, last: last}.laid()
		if what <= Below {
			reads(t, "the kind "+strconv.Itoa(int(what)), s)
		} else {
			fails(t, "the kind "+strconv.Itoa(int(what)), s)
		}
	}
	fails(t, "the kind Most", form{events: []Event{{1, 1, "/a", pith.Most, 1}}, last: last}.laid())
	sixty := strings.Repeat("/x", 30)
	reads(t, "a path of 60 bytes", form{events: []Event{{1, 1, sixty, Set, 1}}, last: last}.laid())
	fails(t, "a path of 61 bytes", form{events: []Event{{1, 1, sixty + "x", Set, 1}}, last: last}.laid())
	b := reads(t, "great numbers", form{events: []Event{{pith.Most, pith.Most, "/", Gone, pith.Most}}, last: []lastNo{{pith.Most, pith.Most}}}.laid())
	events(t, b, pith.Most, Event{pith.Most, pith.Most, "/", Gone, pith.Most})
}

// P11.3: sessions that have a last No, strictly ascending from 1 on, and not more than 1024.
func TestReadLast(t *testing.T) {
	var many []lastNo
	for i := range 1025 {
		many = append(many, lastNo{i + 1, 2*i + 1})
	}
	b := reads(t, "1024 sessions", form{last: many[:1024]}.laid())
	adds(t, b, Watch{1, "/a", false, false}, Watch{1024, "/a", false, false}, Watch{1025, "/a", false, false})
	b.Fire("/a", Set, 1)
	events(t, b, 1, Event{1, 2, "/a", Set, 1})
	events(t, b, 1024, Event{1024, 2048, "/a", Set, 1})
	events(t, b, 1025, Event{1025, 1, "/a", Set, 1})
	fails(t, "1025 sessions", form{last: many}.laid())
	reads(t, "the session Most", form{last: []lastNo{{1, pith.Most}, {pith.Most, 1}}}.laid())
	for what, last := range map[string][]lastNo{
		"the session 0":                {{0, 1}},
		"the session 0 before another": {{0, 1}, {1, 1}},
		"a session twice":              {{1, 1}, {1, 1}},
		"a session twice, changed":     {{1, 1}, {1, 2}},
		"another order":                {{2, 1}, {1, 2}},
		"the last too low":             {{1, 1}, {3, 1}, {2, 1}},
	} {
		fails(t, what, form{last: last}.laid())
	}
}

// P11.3: counts that are too great, and texts that are no Book at all.
func TestReadNoBook(t *testing.T) {
	s := several(t).Lay(nil)
	for _, n := range []int{4, 40, 41, 1024, 1025, pith.Most} {
		fails(t, "a count of "+strconv.Itoa(n), string(pith.Num(nil, n))+string(s[6:]))
		fails(t, "a count at the end", string(s[:len(s)-30])+string(pith.Num(nil, n))+string(s[len(s)-24:]))
	}
	fails(t, "nothing", "")
	fails(t, "text", "there is no Book in this text, whatever its bytes may say about one")
}

// P11.3: a reader that has failed already, and a nil one, have no Book.
func TestReadFailed(t *testing.T) {
	r := pith.Read(string(several(t).Lay(nil)))
	r.Fail()
	b := Read(r)
	if r.OK() {
		t.Error("a reader that has failed")
	}
	isNew(t, "a reader that has failed", b)
	one, two := Read(nil), Read(nil)
	isNew(t, "a nil reader", one)
	isNew(t, "a nil reader again", two)
}
