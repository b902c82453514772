package pith

import (
	"bytes"
	"math"
	"strings"
	"testing"

	"orchard/api"
)

// P1.1: each number is six bytes, big-endian, and is brought within 0 to Most.
func TestNum(t *testing.T) {
	for _, x := range []struct {
		n    int
		want string
	}{
		{0, "\x00\x00\x00\x00\x00\x00"},
		{1, "\x00\x00\x00\x00\x00\x01"},
		{255, "\x00\x00\x00\x00\x00\xff"},
		{258, "\x00\x00\x00\x00\x01\x02"},
		{0x010203040506, "\x01\x02\x03\x04\x05\x06"},
		{Most - 1, "\xff\xff\xff\xff\xff\xfe"},
		{Most, "\xff\xff\xff\xff\xff\xff"},
		{Most + 1, "\xff\xff\xff\xff\xff\xff"},
		{math.MaxInt, "\xff\xff\xff\xff\xff\xff"},
		{-1, "\x00\x00\x00\x00\x00\x00"},
		{-258, "\x00\x00\x00\x00\x00\x00"},
		{math.MinInt, "\x00\x00\x00\x00\x00\x00"},
	} {
		if got := string(Num(nil, x.n)); got != x.want {
			t.Errorf("Num(%d) = %x, want %x", x.n, got, x.want)
		}
	}
	if got := string(Num([]byte("ab"), 1, -7, Most)); got != "ab\x00\x00\x00\x00\x00\x01\x00\x00\x00\x00\x00\x00\xff\xff\xff\xff\xff\xff" {
		t.Errorf("several: %x", got)
	}
}

// P1.1: each string is its length in two bytes, big-endian, and its bytes.
func TestText(t *testing.T) {
	for _, x := range []struct {
		list []string
		want string
	}{
		{nil, "<"},
		{[]string{""}, "<\x00\x00"},
		{[]string{"abc"}, "<\x00\x03abc"},
		{[]string{"ab", "", "c"}, "<\x00\x02ab\x00\x00\x00\x01c"},
		{[]string{"\x00\xff\xc3"}, "<\x00\x03\x00\xff\xc3"},
		{[]string{"ä"}, "<\x00\x02\xc3\xa4"},
	} {
		if got := string(Text([]byte("<"), x.list...)); got != x.want {
			t.Errorf("Text(%q) = %x, want %x", x.list, got, x.want)
		}
	}
}

// P1.1: a string of more than 65535 bytes is truncated to that length.
func TestTextLong(t *testing.T) {
	for _, x := range []struct {
		size int
		head string
		kept int
	}{
		{255, "\x00\xff", 255},
		{256, "\x01\x00", 256},
		{65534, "\xff\xfe", 65534},
		{65535, "\xff\xff", 65535},
		{65536, "\xff\xff", 65535},
		{200000, "\xff\xff", 65535},
	} {
		s := strings.Repeat("0123456789", x.size/10+1)[:x.size]
		want := x.head + s[:x.kept] + "\x00\x01z"
		if string(Text(nil, s, "z")) != want {
			t.Errorf("%d bytes", x.size)
		}
	}
}

// P1.1: each boolean is a byte, 1 or 0.
func TestFlag(t *testing.T) {
	if got := string(Flag([]byte("f"), true, false, true)); got != "f\x01\x00\x01" {
		t.Errorf("%x", got)
	}
	if got := string(Flag(nil, false)); got != "\x00" {
		t.Errorf("%x", got)
	}
}

// appenders are the three functions that append, each of them appending something, or nothing.
func appenders() map[string]func(b []byte) []byte {
	return map[string]func(b []byte) []byte{
		"Num":     func(b []byte) []byte { return Num(b, Most) },
		"Text":    func(b []byte) []byte { return Text(b, "abc") },
		"Flag":    func(b []byte) []byte { return Flag(b, true) },
		"no Num":  func(b []byte) []byte { return Num(b) },
		"no Text": func(b []byte) []byte { return Text(b) },
		"no Flag": func(b []byte) []byte { return Flag(b) },
	}
}

// P1.1, with rule 4: b is not modified, not even behind its end, and the result shares nothing with it.
func TestAppendIsNew(t *testing.T) {
	for name, add := range appenders() {
		whole := []byte("0123456789abcdef")
		out := add(whole[:2])
		if string(whole) != "0123456789abcdef" {
			t.Errorf("%s wrote to its argument: %s", name, whole)
		}
		if !bytes.HasPrefix(out, []byte("01")) {
			t.Errorf("%s lost what was there: %x", name, out)
		}
		whole[0] = 'x'
		if out[0] != '0' {
			t.Errorf("%s shares its argument", name)
		}
		if len(add(nil)) != len(out)-2 || !bytes.Equal(add(nil), add([]byte{})) {
			t.Errorf("%s: nil and empty differ", name)
		}
	}
}

// P1.1, with rule 4: two results that begin alike are apart.
func TestAppendTwice(t *testing.T) {
	base := Num(nil, 1)
	one, two := Num(base, 2), Num(base, 3)
	if !bytes.Equal(one, Num(nil, 1, 2)) || !bytes.Equal(two, Num(nil, 1, 3)) {
		t.Errorf("%x %x", one, two)
	}
}

// ended checks that a reader had an error, and that nothing can be read any more.
func ended(t *testing.T, what string, r *Reader) {
	t.Helper()
	if r.OK() || r.Done() != api.ErrForm {
		t.Errorf("%s: no error", what)
	}
	if r.Num(Most) != 0 || r.Text(65535) != "" || r.Flag() {
		t.Errorf("%s: something is left", what)
	}
	if r.OK() || r.Done() != api.ErrForm {
		t.Errorf("%s: the error is gone", what)
	}
}

// P1.2: a Reader reads what was appended, in order, from the start.
func TestRead(t *testing.T) {
	list := []int{0, 1, 255, 256, 258, 1<<40 + 3, Most}
	b := Num(nil, list...)
	b = Text(b, "", "abc", strings.Repeat("x", 65535))
	b = Flag(b, true, false)
	r := Read(string(b))
	for _, n := range list {
		if got := r.Num(n); got != n || !r.OK() || r.Done() != api.ErrForm {
			t.Errorf("Num = %d, want %d", got, n)
		}
	}
	if r.Text(0) != "" || r.Text(3) != "abc" || r.Text(65535) != strings.Repeat("x", 65535) {
		t.Error("Text")
	}
	if !r.Flag() || r.Flag() {
		t.Error("Flag")
	}
	if !r.OK() || r.Done() != api.OK || r.Done() != api.OK {
		t.Error("Done")
	}
	if r.Num(Most) != 0 {
		t.Error("Num at the end")
	}
	ended(t, "at the end", r)
}

// P1.2: Num is an error if bytes are missing, or above most.
func TestReadNum(t *testing.T) {
	six := string(Num(nil, 258))
	for n := range len(six) {
		r := Read(six[:n])
		if r.Num(Most) != 0 {
			t.Errorf("of %d bytes", n)
		}
		ended(t, "Num of too few", r)
	}
	for _, x := range []struct{ n, most, want int }{
		{258, 258, 258}, {258, math.MaxInt, 258}, {258, Most, 258},
		{0, 0, 0}, {0, -1, 0}, {0, math.MinInt, 0}, {Most, Most, Most},
	} {
		r := Read(string(Num(nil, x.n)))
		if got := r.Num(x.most); got != x.want || r.Done() != api.OK {
			t.Errorf("Num(%d) of %d = %d", x.most, x.n, got)
		}
	}
	for _, x := range []struct{ n, most int }{
		{258, 257}, {258, 0}, {1, 0}, {1, -1}, {258, math.MinInt}, {Most, Most - 1},
	} {
		r := Read(string(Num(nil, x.n, 0)) + "\x00\x01a\x01")
		if got := r.Num(x.most); got != 0 {
			t.Errorf("Num(%d) of %d = %d", x.most, x.n, got)
		}
		ended(t, "Num above most", r)
	}
}

// P1.2: Text is an error if bytes are missing, or if the length is above most.
func TestReadText(t *testing.T) {
	for _, s := range []string{"", "\x00", "\x00\x01", "\x00\x03ab", "\x01\x00ab", "\xff\xff"} {
		r := Read(s)
		if r.Text(65535) != "" {
			t.Errorf("%x", s)
		}
		ended(t, "Text of too few", r)
	}
	for _, most := range []int{3, 4, 65535, math.MaxInt} {
		r := Read("\x00\x03a\x00\xff")
		if r.Text(most) != "a\x00\xff" || r.Done() != api.OK {
			t.Errorf("Text(%d)", most)
		}
	}
	for _, most := range []int{2, 0, -1, math.MinInt} {
		r := Read("\x00\x03abc\x00\x00\x01")
		if r.Text(most) != "" {
			t.Errorf("Text(%d)", most)
		}
		ended(t, "Text above most", r)
	}
	if r := Read("\x00\x00"); r.Text(0) != "" || r.Done() != api.OK {
		t.Error("an empty text")
	}
	// Only Num counts a most below 0 as 0: even the length 0 is above it.
	r := Read("\x00\x00")
	r.Text(-1)
	ended(t, "Text(-1)", r)
}

// P1.2: Flag is an error if there is no byte, or if it is above 1.
func TestReadFlag(t *testing.T) {
	for b := range 256 {
		r := Read(string([]byte{byte(b)}) + "\x01")
		got := r.Flag()
		if got != (b == 1) || r.OK() != (b <= 1) {
			t.Errorf("Flag of %d = %t", b, got)
		}
		if b > 1 {
			ended(t, "Flag above 1", r)
		} else if !r.Flag() || r.Done() != api.OK {
			t.Errorf("behind %d", b)
		}
	}
	r := Read("")
	if r.Flag() {
		t.Error("Flag of nothing")
	}
	ended(t, "Flag of nothing", r)
}

// P1.2: Fail causes an error, and nothing is left.
func TestFail(t *testing.T) {
	r := Read(string(Num(nil, 5, 6)))
	if r.Num(9) != 5 {
		t.Error("Num")
	}
	r.Fail()
	ended(t, "Fail", r)
	r.Fail()
	ended(t, "Fail again", r)
	empty := Read("")
	empty.Fail()
	ended(t, "Fail of nothing", empty)
}

// P1.2: Done tells whether bytes are left, and does not end the reading.
func TestDone(t *testing.T) {
	if r := Read(""); !r.OK() || r.Done() != api.OK {
		t.Error("nothing")
	}
	r := Read("\x01\x00")
	if !r.OK() || r.Done() != api.ErrForm || !r.Flag() || r.Done() != api.ErrForm {
		t.Error("bytes are left")
	}
	if r.Flag() || !r.OK() || r.Done() != api.OK {
		t.Error("no bytes are left")
	}
}

// P1.2: two readers of one string are apart.
func TestReaders(t *testing.T) {
	s := string(Num(nil, 7))
	one, two := Read(s), Read(s)
	one.Fail()
	if two.Num(7) != 7 || two.Done() != api.OK {
		t.Error("another reader's error")
	}
}

// P1.2: a nil Reader is not OK and returns nothing.
func TestNilReader(t *testing.T) {
	var r *Reader
	r.Fail()
	for _, most := range []int{math.MinInt, -1, 0, Most} {
		if r.Num(most) != 0 || r.Text(most) != "" {
			t.Errorf("most %d", most)
		}
	}
	ended(t, "nil", r)
}
