package sess

import (
	"bytes"
	"maps"
	"math"
	"slices"
	"strconv"
	"strings"
	"testing"

	"orchard/api"
	"orchard/pith"
)

// text returns so many bytes.
func text(size int) string {
	return strings.Repeat("0123456789", size/10+1)[:size]
}

// opens opens sessions.
func opens(t *testing.T, x *Table, ids ...int) {
	t.Helper()
	for _, id := range ids {
		if e := x.Open(id); e != api.OK {
			t.Fatalf("Open(%d) = %d", id, e)
		}
	}
}

// keeps stores an answer.
func keeps(t *testing.T, x *Table, id, req int, answer string) {
	t.Helper()
	if e := x.Keep(id, req, answer); e != api.OK {
		t.Fatalf("Keep(%d, %d) = %d", id, req, e)
	}
}

// sees checks what Seen returns.
func sees(t *testing.T, x *Table, id, req int, answer string, seen bool, want api.Errno) {
	t.Helper()
	if got, is, e := x.Seen(id, req); got != answer || is != seen || e != want {
		t.Errorf("Seen(%d, %d) = %.20q, %t, %d, want %.20q, %t, %d", id, req, got, is, e, answer, seen, want)
	}
}

// has checks which sessions a table has.
func has(t *testing.T, x *Table, ids ...int) {
	t.Helper()
	if got := x.All(); !slices.Equal(got, ids) {
		t.Errorf("All = %d, want %d", got, ids)
	}
	for _, id := range []int{math.MinInt, -1, 0, 1, 2, 3, 5, 7, 16, 17, pith.Most, pith.Most + 1, math.MaxInt} {
		if x.Has(id) != slices.Contains(ids, id) {
			t.Errorf("Has(%d) = %t", id, x.Has(id))
		}
	}
}

// unchanged runs a call that returns an error, and checks it, and that the table is as it was.
func unchanged(t *testing.T, what string, x *Table, want api.Errno, call func() api.Errno) {
	t.Helper()
	before := x.Lay(nil)
	if e := call(); e != want {
		t.Errorf("%s: %d, want %d", what, e, want)
	}
	if !bytes.Equal(x.Lay(nil), before) {
		t.Errorf("%s: the table changed", what)
	}
}

// noNumbers are what neither a session nor a request may have as its number.
func noNumbers() []int {
	return []int{math.MinInt, -pith.Most, -1, 0, pith.Most + 1, pith.Most + 2, math.MaxInt}
}

// P10.1: a new table is empty, and apart from others.
func TestNew(t *testing.T) {
	if MaxAnswer != 400 {
		t.Errorf("MaxAnswer is %d", MaxAnswer)
	}
	x := New()
	has(t, x)
	opens(t, x, 1)
	has(t, New())
}

// P10.1: a nil Table is empty; P10.2 and P10.3 follow from that.
func TestNilTable(t *testing.T) {
	var x *Table
	has(t, x)
	for _, id := range append(noNumbers(), 1, 5, pith.Most) {
		if e := x.Open(id); e != api.ErrArg {
			t.Errorf("Open(%d) = %d", id, e)
		}
		if e := x.Close(id); e != api.ErrSession {
			t.Errorf("Close(%d) = %d", id, e)
		}
		for _, req := range []int{-1, 0, 1, pith.Most, pith.Most + 1} {
			sees(t, x, id, req, "", false, api.ErrSession)
			if e := x.Keep(id, req, text(401)); e != api.ErrSession {
				t.Errorf("Keep(%d, %d) = %d", id, req, e)
			}
		}
	}
	if got := x.Lay([]byte("b")); string(got) != "b\x00\x00\x00\x00\x00\x00" {
		t.Errorf("Lay = %x", got)
	}
	y := x.Clone()
	if y == nil {
		t.Fatal("a copy of nil is nil")
	}
	has(t, y)
	opens(t, y, 1)
	has(t, x.Clone())
}

// P10.1: which numbers a session may have.
func TestOpenNumbers(t *testing.T) {
	x := New()
	for _, id := range noNumbers() {
		unchanged(t, "Open of "+strconv.Itoa(id), x, api.ErrArg, func() api.Errno { return x.Open(id) })
	}
	opens(t, x, pith.Most, 1, 5, pith.Most-1)
	for _, id := range noNumbers() {
		unchanged(t, "Open of "+strconv.Itoa(id), x, api.ErrArg, func() api.Errno { return x.Open(id) })
		unchanged(t, "Close of "+strconv.Itoa(id), x, api.ErrSession, func() api.Errno { return x.Close(id) })
	}
	if got := x.All(); !slices.Equal(got, []int{1, 5, pith.Most - 1, pith.Most}) {
		t.Errorf("All = %d", got)
	}
}

// P10.1: a session that exists keeps its answer; a new one has Req 0 and an empty Answer.
func TestOpenExists(t *testing.T) {
	x := New()
	opens(t, x, 5, 2)
	sees(t, x, 5, 1, "", false, api.OK)
	if got := string(x.Lay(nil)); got != laid(entry{2, Session{}}, entry{5, Session{}}) {
		t.Errorf("two new sessions: %x", got)
	}
	keeps(t, x, 5, 3, "a")
	unchanged(t, "Open again", x, api.ErrExists, func() api.Errno { return x.Open(5) })
	sees(t, x, 5, 3, "a", true, api.OK)
}

// P10.1: sixteen sessions, and one more; the other errors are returned before ErrQuota.
func TestQuota(t *testing.T) {
	x := New()
	for i := range 16 {
		opens(t, x, 3*(16-i))
	}
	want := []int{3, 6, 9, 12, 15, 18, 21, 24, 27, 30, 33, 36, 39, 42, 45, 48}
	if got := x.All(); !slices.Equal(got, want) {
		t.Errorf("All = %d", got)
	}
	for _, id := range []int{1, 4, 49, pith.Most} {
		unchanged(t, "one more", x, api.ErrQuota, func() api.Errno { return x.Open(id) })
	}
	unchanged(t, "one that exists", x, api.ErrExists, func() api.Errno { return x.Open(48) })
	unchanged(t, "the number 0", x, api.ErrArg, func() api.Errno { return x.Open(0) })
	unchanged(t, "a number above Most", x, api.ErrArg, func() api.Errno { return x.Open(pith.Most + 1) })
	keeps(t, x, 3, 1, "still")
	if e := x.Close(9); e != api.OK {
		t.Fatal(e)
	}
	opens(t, x, 1)
	unchanged(t, "one more again", x, api.ErrQuota, func() api.Errno { return x.Open(9) })
}

// P10.1: a session that is closed is gone; opened again it is a new one.
func TestClose(t *testing.T) {
	x := New()
	opens(t, x, 5, 7, 2)
	keeps(t, x, 5, 9, "a")
	keeps(t, x, 7, 8, "b")
	unchanged(t, "Close of none", x, api.ErrSession, func() api.Errno { return x.Close(3) })
	if e := x.Close(5); e != api.OK {
		t.Fatal(e)
	}
	has(t, x, 2, 7)
	sees(t, x, 5, 9, "", false, api.ErrSession)
	sees(t, x, 7, 8, "b", true, api.OK)
	unchanged(t, "Close again", x, api.ErrSession, func() api.Errno { return x.Close(5) })
	opens(t, x, 5)
	has(t, x, 2, 5, 7)
	sees(t, x, 5, 9, "", false, api.OK)
	sees(t, x, 5, 1, "", false, api.OK)
	keeps(t, x, 5, 1, "c")
	sees(t, x, 5, 1, "c", true, api.OK)
}

// P10.1, with rule 4: who changes what All returned does not change the table.
func TestAllIsNew(t *testing.T) {
	x := New()
	opens(t, x, 2, 3)
	list := x.All()
	list[0] = 99
	has(t, x, 2, 3)
}

// P10.2: a request below, at and above the last one.
func TestSeen(t *testing.T) {
	x := New()
	opens(t, x, 5, 7)
	keeps(t, x, 7, 100, "of another session")
	answers := []string{"x", "", text(400), "\x00\xff"}
	for i, req := range []int{1, 2, 40, pith.Most} {
		sees(t, x, 5, req, "", false, api.OK)
		keeps(t, x, 5, req, answers[i])
		for range 2 {
			sees(t, x, 5, req, answers[i], true, api.OK)
		}
		for _, old := range []int{1, 2, 39, 40, pith.Most - 1} {
			if old < req {
				sees(t, x, 5, old, "", false, api.ErrOld)
			} else if old > req {
				sees(t, x, 5, old, "", false, api.OK)
			}
		}
		for _, no := range noNumbers() {
			sees(t, x, 5, no, "", false, api.ErrArg)
			sees(t, x, 6, no, "", false, api.ErrSession)
		}
		sees(t, x, 6, req, "", false, api.ErrSession)
	}
	sees(t, x, 7, 100, "of another session", true, api.OK)
}

// P10.2: a Req of 0 is no request, not even before the first one.
func TestSeenZero(t *testing.T) {
	x := New()
	opens(t, x, 1)
	sees(t, x, 1, 0, "", false, api.ErrArg)
	unchanged(t, "Keep of 0", x, api.ErrArg, func() api.Errno { return x.Keep(1, 0, "") })
	sees(t, x, 1, 1, "", false, api.OK)
}

// P10.2: the errors of Keep, in their order, and that nothing is stored then.
func TestKeepErrors(t *testing.T) {
	x := New()
	opens(t, x, 5, 7)
	keeps(t, x, 5, 10, "a")
	for _, answer := range []string{"", "b", text(400), text(401), text(100000)} {
		keep := func(what string, id, req int, want api.Errno) {
			t.Helper()
			unchanged(t, what, x, want, func() api.Errno { return x.Keep(id, req, answer) })
		}
		keep("the session's Req again", 5, 10, api.ErrOld)
		keep("a Req below", 5, 9, api.ErrOld)
		keep("the first Req", 5, 1, api.ErrOld)
		keep("no session", 6, 11, api.ErrSession)
		for _, no := range noNumbers() {
			keep("no request", 5, no, api.ErrArg)
			keep("no session and no request", 6, no, api.ErrSession)
			keep("no session's number", no, 11, api.ErrSession)
		}
		if len(answer) > 400 {
			keep("a long answer", 5, 11, api.ErrLong)
			keep("a long first answer", 7, 1, api.ErrLong)
		}
	}
	sees(t, x, 5, 10, "a", true, api.OK)
	keeps(t, x, 5, 11, text(400))
	sees(t, x, 5, 11, text(400), true, api.OK)
	sees(t, x, 5, 10, "", false, api.ErrOld)
}

// P10.3: a copy has the same sessions, and neither changes with the other.
func TestClone(t *testing.T) {
	x := New()
	opens(t, x, 1, 2, 3)
	keeps(t, x, 2, 5, "a")
	y := x.Clone()
	if !bytes.Equal(x.Lay(nil), y.Lay(nil)) {
		t.Fatal("a copy differs")
	}
	keeps(t, y, 2, 6, "b")
	opens(t, y, 5)
	if e := x.Close(3); e != api.OK {
		t.Fatal(e)
	}
	keeps(t, x, 1, 1, "c")
	has(t, x, 1, 2)
	has(t, y, 1, 2, 3, 5)
	sees(t, x, 2, 5, "a", true, api.OK)
	sees(t, y, 2, 6, "b", true, api.OK)
	sees(t, y, 1, 1, "", false, api.OK)
	z := New().Clone()
	opens(t, z, 7)
	has(t, z, 7)
}

// entry is a session and its number.
type entry struct {
	id int
	Session
}

// laid is the encoding of sessions by the letter of P10.3.
func laid(list ...entry) string {
	b := pith.Num(nil, len(list))
	for _, s := range list {
		b = pith.Num(b, s.id)
		b = pith.Num(b, s.Req)
		b = pith.Text(b, s.Answer)
	}
	return string(b)
}

// several returns a table of sessions before their first request and behind it.
func several(t *testing.T) *Table {
	t.Helper()
	x := New()
	opens(t, x, 300, 2, pith.Most, 7, 1)
	keeps(t, x, 2, 258, "abc")
	keeps(t, x, 300, 1, "")
	keeps(t, x, pith.Most, pith.Most, text(400))
	return x
}

// full returns a table of sixteen sessions.
func full(t *testing.T) *Table {
	t.Helper()
	x := New()
	for i := range 16 {
		opens(t, x, i+1)
		if i > 0 {
			keeps(t, x, i+1, i, text(25*i))
		}
	}
	return x
}

// P10.3: the encoding, by its letter.
func TestLay(t *testing.T) {
	x := several(t)
	want := laid(
		entry{1, Session{}},
		entry{2, Session{258, "abc"}},
		entry{7, Session{}},
		entry{300, Session{1, ""}},
		entry{pith.Most, Session{pith.Most, text(400)}},
	)
	for range 3 {
		if got := x.Lay(nil); string(got) != want {
			t.Errorf("Lay = %x\nwant  %x", got, want)
		}
	}
	if got := x.Lay([]byte("head")); string(got) != "head"+want {
		t.Errorf("Lay behind bytes = %x", got)
	}
	if got := New().Lay([]byte{}); string(got) != "\x00\x00\x00\x00\x00\x00" {
		t.Errorf("New: %x", got)
	}
	one := New()
	opens(t, one, 5)
	keeps(t, one, 5, 1, "x")
	if got := one.Lay(nil); string(got) != "\x00\x00\x00\x00\x00\x01"+"\x00\x00\x00\x00\x00\x05"+"\x00\x00\x00\x00\x00\x01"+"\x00\x01x" {
		t.Errorf("one session: %x", got)
	}
}

// P10.3, with rule 4: b is not modified, not even behind its end, and the result shares nothing with it.
func TestLayIsNew(t *testing.T) {
	for _, x := range []*Table{nil, New(), several(t)} {
		whole := []byte(text(2000))
		out := x.Lay(whole[:2])
		if string(whole) != text(2000) {
			t.Error("Lay wrote to its argument")
		}
		whole[0] = 'x'
		if out[0] != '0' {
			t.Error("Lay shares its argument")
		}
		one, two := x.Lay(out), several(t).Lay(out)
		if !bytes.Equal(one, append(slices.Clone(out), x.Lay(nil)...)) || !bytes.HasPrefix(two, out) {
			t.Error("two results are shared")
		}
	}
}

// fails checks that bytes are no table: the reader has failed, and the result is New.
func fails(t *testing.T, what string, s string) {
	t.Helper()
	r := pith.Read(s)
	x := Read(r)
	if r.OK() || r.Done() != api.ErrForm {
		t.Errorf("%s: the reader has not failed", what)
	}
	if x == nil || len(x.All()) != 0 {
		t.Fatalf("%s: the result is not New", what)
	}
	opens(t, x, 1)
}

// reads checks that bytes are a table, and returns it.
func reads(t *testing.T, what string, s string) *Table {
	t.Helper()
	r := pith.Read(s)
	x := Read(r)
	if r.Done() != api.OK {
		t.Fatalf("%s: the reader has failed", what)
	}
	if string(x.Lay(nil)) != s {
		t.Errorf("%s: laid again it differs", what)
	}
	return x
}

// P10.3: what was laid is read, one table after the other, and lives on its own.
func TestRead(t *testing.T) {
	tables := []*Table{New(), several(t), full(t)}
	var all []byte
	for i, x := range tables {
		y := reads(t, "table "+strconv.Itoa(i), string(x.Lay(nil)))
		if !maps.Equal(x.all, y.all) {
			t.Errorf("table %d differs", i)
		}
		all = x.Lay(all)
	}
	r := pith.Read(string(pith.Num(all, 77)))
	for i, x := range tables {
		if y := Read(r); !maps.Equal(x.all, y.all) || !r.OK() {
			t.Errorf("table %d in a row differs", i)
		}
	}
	if r.Num(77) != 77 || r.Done() != api.OK {
		t.Error("what is behind a table")
	}
	x := reads(t, "several", string(tables[1].Lay(nil)))
	sees(t, x, 2, 258, "abc", true, api.OK)
	sees(t, x, 2, 257, "", false, api.ErrOld)
	sees(t, x, 7, 1, "", false, api.OK)
	keeps(t, x, 7, 1, "new")
	opens(t, x, 3)
	if !maps.Equal(tables[1].all, several(t).all) {
		t.Error("two tables share their sessions")
	}
	y := reads(t, "full", string(tables[2].Lay(nil)))
	unchanged(t, "one more", y, api.ErrQuota, func() api.Errno { return y.Open(17) })
}

// P10.3: an encoding that is truncated is none; one that is extended is followed by bytes.
func TestReadLength(t *testing.T) {
	for _, x := range []*Table{New(), several(t)} {
		s := string(x.Lay(nil))
		for size := range len(s) {
			fails(t, "of "+strconv.Itoa(size)+" bytes", s[:size])
		}
		for _, more := range []string{"\x00", "x", s} {
			r := pith.Read(s + more)
			if y := Read(r); !maps.Equal(x.all, y.all) || !r.OK() || r.Done() != api.ErrForm {
				t.Error("extended")
			}
		}
	}
}

// P10.3: whatever bit of an encoding changes, there is either no table, or another one of this form.
func TestReadChanged(t *testing.T) {
	x := several(t)
	s := x.Lay(nil)
	for i := range s {
		for bit := range 8 {
			b := slices.Clone(s)
			b[i] ^= 1 << bit
			r := pith.Read(string(b))
			y := Read(r)
			if !r.OK() && len(y.All()) != 0 {
				t.Errorf("byte %d, bit %d: the result is not New", i, bit)
			}
			// A lower count leaves sessions behind the table.
			if again := y.Lay(nil); r.OK() && (maps.Equal(x.all, y.all) || !bytes.HasPrefix(b, again) || len(again) < len(b) && r.Done() == api.OK) {
				t.Errorf("byte %d, bit %d: laid again it differs", i, bit)
			}
		}
	}
}

// P10.3: what has the form of an encoding, but is no table, and what is just one.
func TestReadNoTable(t *testing.T) {
	of := func(id, req int, answer string) entry { return entry{id, Session{req, answer}} }
	var many []entry
	for i := range 17 {
		many = append(many, of(i+1, i, ""))
	}
	for what, list := range map[string][]entry{
		"no sessions":           nil,
		"sixteen sessions":      many[:16],
		"the ids 1 and 2":       {of(1, 0, ""), of(2, 0, "")},
		"the id Most":           {of(pith.Most, 0, "")},
		"the Req Most":          {of(1, pith.Most, "x")},
		"an answer of 400":      {of(1, 1, text(400))},
		"an empty answer":       {of(1, 1, "")},
		"a Req below the other": {of(1, 9, "x"), of(2, 8, "y")},
	} {
		reads(t, what, laid(list...))
	}
	for what, list := range map[string][]entry{
		"seventeen sessions":     many,
		"the id 0":               {of(0, 0, "")},
		"the id 0 before others": {of(0, 1, "x"), of(1, 0, "")},
		"an id twice":            {of(1, 0, ""), of(1, 0, "")},
		"an id twice, changed":   {of(1, 1, "x"), of(1, 2, "y")},
		"another order":          {of(2, 0, ""), of(1, 0, "")},
		"the last too low":       {of(1, 0, ""), of(3, 0, ""), of(2, 0, "")},
		"an answer of 401":       {of(1, 1, text(401))},
		"an answer of Req 0":     {of(1, 0, "x")},
		"an answer behind one":   {of(1, 1, "x"), of(2, 0, "x")},
	} {
		fails(t, what, laid(list...))
	}
	behind := laid(of(1, 0, ""))[6:]
	fails(t, "the count is too great", string(pith.Num(nil, 2))+behind)
	fails(t, "the count is much too great", string(pith.Num(nil, 17))+behind)
	fails(t, "the greatest count", string(pith.Num(nil, pith.Most))+behind)
	fails(t, "nothing", "")
	fails(t, "text", "there is no table in this text, whatever its bytes may say about one")
}

// P10.3: a reader that has failed already, and a nil one, have no table.
func TestReadFailed(t *testing.T) {
	r := pith.Read(string(several(t).Lay(nil)))
	r.Fail()
	if x := Read(r); r.OK() {
		t.Error("a reader that has failed")
	} else {
		has(t, x)
	}
	one, two := Read(nil), Read(nil)
	opens(t, one, 1)
	has(t, one, 1)
	has(t, two)
}
