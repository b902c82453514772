package slot

import (
	"math"
	"strings"
	"testing"

	"orchard/api"
	"orchard/dev"
	"orchard/pith"
	"orchard/sum"
)

// records are some that may be put, the limits among them.
func records() []Rec {
	return []Rec{
		{},
		{Kind: 1, Index: 2, Term: 3, Data: "abc"},
		{Kind: 5},
		{Index: 6},
		{Term: 7},
		{Data: "\x00"},
		{Kind: 258, Index: 1 << 40, Term: 65535, Data: "\x00\xff\xc3"},
		{Kind: pith.Most, Index: pith.Most, Term: pith.Most, Data: strings.Repeat("\xff", MaxData)},
		{Data: strings.Repeat("z", MaxData-1)},
	}
}

// sealed returns the bytes of a block by the letter of P4.1, for any data and any length that is claimed.
func sealed(kind, index, term, size int, data string) string {
	b := pith.Num(nil, kind, index, term)
	return sum.Seal(string(b) + string([]byte{byte(size >> 8), byte(size)}) + data)
}

// The states are numbered from 0, and a whole block holds 488 bytes of data.
func TestConstants(t *testing.T) {
	if Empty != 0 || Good != 1 || Bad != 2 {
		t.Error(Empty, Good, Bad)
	}
	if MaxData != 488 {
		t.Error(MaxData)
	}
	if s, e := Put(Rec{Data: strings.Repeat("x", MaxData)}); len(s) != api.BlockSize || e != api.OK {
		t.Error(len(s), e)
	}
}

// P4.1: Put is the checksum, the three numbers, and the data behind their length.
func TestPut(t *testing.T) {
	body := "\x00\x00\x00\x00\x00\x01" + "\x00\x00\x00\x00\x00\x02" + "\x00\x00\x00\x00\x00\x03" + "\x00\x03abc"
	if s, e := Put(Rec{1, 2, 3, "abc"}); s != sum.Seal(body) || e != api.OK {
		t.Errorf("%x %d", s, e)
	}
	for _, r := range records() {
		want := sealed(r.Kind, r.Index, r.Term, len(r.Data), r.Data)
		if s, e := Put(r); s != want || e != api.OK {
			t.Errorf("Put(%v) = %x, %d", r, s, e)
		}
	}
}

// refused are records that may not be put, with the error that is named first.
func refused() []struct {
	r    Rec
	want api.Errno
} {
	long := strings.Repeat("x", MaxData+1)
	return []struct {
		r    Rec
		want api.Errno
	}{
		{Rec{Kind: -1}, api.ErrArg},
		{Rec{Index: -1}, api.ErrArg},
		{Rec{Term: -1}, api.ErrArg},
		{Rec{Kind: pith.Most + 1}, api.ErrArg},
		{Rec{Index: pith.Most + 1}, api.ErrArg},
		{Rec{Term: pith.Most + 1}, api.ErrArg},
		{Rec{Kind: math.MinInt}, api.ErrArg},
		{Rec{Index: math.MaxInt}, api.ErrArg},
		{Rec{Data: long}, api.ErrLong},
		{Rec{Kind: 1, Index: 2, Term: 3, Data: strings.Repeat("x", 70000)}, api.ErrLong},
		{Rec{Kind: -1, Data: long}, api.ErrArg},
		{Rec{Term: pith.Most + 1, Data: long}, api.ErrArg},
	}
}

// P4.1: Put returns ErrArg for a number out of its bounds, then ErrLong for too much data.
func TestPutRefuses(t *testing.T) {
	for _, x := range refused() {
		if s, e := Put(x.r); s != "" || e != x.want {
			t.Errorf("%d %d %d, %d bytes: %x, %d, want %d", x.r.Kind, x.r.Index, x.r.Term, len(x.r.Data), s, e, x.want)
		}
	}
}

// P4.1: Get returns what was put.
func TestGet(t *testing.T) {
	for _, r := range records() {
		s, _ := Put(r)
		if got, state := Get(s); got != r || state != Good {
			t.Errorf("Get of Put(%v) = %v, %d", r, got, state)
		}
	}
	for size := range MaxData + 1 {
		r := Rec{2, size, 3, strings.Repeat("d", size)}
		s, _ := Put(r)
		if got, state := Get(s); got != r || state != Good {
			t.Errorf("%d bytes: %v, %d", size, got, state)
		}
	}
}

// reads checks what Get returns when nothing was put.
func reads(t *testing.T, what, s string, want State) {
	t.Helper()
	if r, state := Get(s); r != (Rec{}) || state != want {
		t.Errorf("%s: %v, %d, want %d", what, r, state, want)
	}
}

// P4.1: no bytes at all are an empty block, not a bad one.
func TestGetEmpty(t *testing.T) {
	reads(t, "no bytes", "", Empty)
	reads(t, "a byte", "\x00", Bad)
	reads(t, "what is sealed is empty", sum.Seal(""), Bad)
}

// P4.1: whatever Put does not return is bad.
func TestGetBad(t *testing.T) {
	s, _ := Put(Rec{1, 2, 3, "abc"})
	for n := 1; n < len(s); n++ {
		reads(t, "cut", s[:n], Bad)
		reads(t, "cut at its start", s[n:], Bad)
	}
	for i := range len(s) {
		for bit := range 8 {
			b := []byte(s)
			b[i] ^= 1 << bit
			reads(t, "a bit changed", string(b), Bad)
		}
	}
	reads(t, "longer", s+"x", Bad)
	reads(t, "without its checksum", s[4:], Bad)
	reads(t, "zeros", strings.Repeat("\x00", api.BlockSize), Bad)
	reads(t, "letters", strings.Repeat("x", 100000), Bad)
}

// P4.1: a checksum that fits does not make good what Put does not return.
func TestGetSealedBad(t *testing.T) {
	long := strings.Repeat("x", MaxData+1)
	reads(t, "too much data", sealed(1, 2, 3, len(long), long), Bad)
	reads(t, "a byte is left", sealed(1, 2, 3, 2, "abc"), Bad)
	reads(t, "a byte is missing", sealed(1, 2, 3, 4, "abc"), Bad)
	reads(t, "an empty text, and a byte", sealed(1, 2, 3, 0, "\x00"), Bad)
	reads(t, "sealed twice", sum.Seal(sealed(1, 2, 3, 3, "abc")), Bad)
	body := sealed(1, 2, 3, 3, "abc")[4:]
	for n := range len(body) {
		reads(t, "cut, and sealed", sum.Seal(body[:n]), Bad)
	}
	if r, state := Get(sealed(1, 2, 3, 3, "abc")); r != (Rec{1, 2, 3, "abc"}) || state != Good {
		t.Error("the test's own sealing")
	}
}

// blocks returns a device whose block 0 is empty, whose block 1 holds r, and whose blocks 2 to 4 are
// flipped, lost, and filled with something else.
func blocks(t *testing.T, r Rec) *dev.Device {
	t.Helper()
	d := dev.New(5)
	for i := 1; i < 4; i++ {
		if e := Write(d, i, r); e != api.OK {
			t.Fatalf("Write: %d", e)
		}
	}
	d.Write(4, "something else")
	d.Flush()
	d.Flip(2, 9, 4)
	d.Lose(3)
	return d
}

// readsAs checks what Read returns.
func readsAs(t *testing.T, what string, d *dev.Device, block int, r Rec, state State, e api.Errno) {
	t.Helper()
	if got, st, f := Read(d, block); got != r || st != state || f != e {
		t.Errorf("%s: %v, %d, %d, want %v, %d, %d", what, got, st, f, r, state, e)
	}
}

// P4.2: Read returns what a block holds; a lost one is bad, and that is no error.
func TestRead(t *testing.T) {
	for _, r := range records() {
		d := blocks(t, r)
		readsAs(t, "empty", d, 0, Rec{}, Empty, api.OK)
		readsAs(t, "good", d, 1, r, Good, api.OK)
		readsAs(t, "flipped", d, 2, Rec{}, Bad, api.OK)
		readsAs(t, "lost", d, 3, Rec{}, Bad, api.OK)
		readsAs(t, "something else", d, 4, Rec{}, Bad, api.OK)
	}
}

// P4.2: another error of the device is returned, with Empty.
func TestReadFails(t *testing.T) {
	d := blocks(t, Rec{1, 2, 3, "abc"})
	for _, block := range []int{-1, 5, math.MinInt, math.MaxInt} {
		readsAs(t, "no such block", d, block, Rec{}, Empty, api.ErrNone)
	}
	readsAs(t, "no blocks", dev.New(0), 0, Rec{}, Empty, api.ErrNone)
	d.Fall(0)
	d.Flush()
	for block := -1; block < 6; block++ {
		readsAs(t, "without power", d, block, Rec{}, Empty, api.ErrDown)
		readsAs(t, "no device", nil, block, Rec{}, Empty, api.ErrDown)
	}
}

// P4.2: Write lets a block contain what Put returns, and nothing else.
func TestWrite(t *testing.T) {
	for _, r := range records() {
		d := blocks(t, Rec{9, 9, 9, "old"})
		want, _ := Put(r)
		for i := range d.Size() {
			if e := Write(d, i, r); e != api.OK {
				t.Errorf("Write: %d", e)
			}
			if s, e := d.Read(i); s != want || e != api.OK {
				t.Errorf("block %d is %x, %d, want %x", i, s, e, want)
			}
			readsAs(t, "written", d, i, r, Good, api.OK)
		}
	}
}

// P4.2: Write is one operation, and does not Flush.
func TestWriteIsOneOperation(t *testing.T) {
	d := dev.New(2)
	d.Fall(1)
	if e := Write(d, 0, Rec{1, 2, 3, "abcd"}); e != api.OK || d.Down() {
		t.Error("the first one", e)
	}
	if e := Write(d, 1, Rec{}); e != api.ErrDown {
		t.Error("the second one", e)
	}
	readsAs(t, "Lost", d.Crash(dev.Lost), 0, Rec{}, Empty, api.OK)
	readsAs(t, "Kept", d.Crash(dev.Kept), 0, Rec{1, 2, 3, "abcd"}, Good, api.OK)
	readsAs(t, "Torn", d.Crash(dev.Torn), 0, Rec{}, Bad, api.OK)
}

// P4.2: Write returns the device's error.
func TestWriteFails(t *testing.T) {
	r := Rec{1, 2, 3, "abc"}
	for _, block := range []int{-1, 2, math.MinInt, math.MaxInt} {
		if e := Write(dev.New(2), block, r); e != api.ErrNone {
			t.Errorf("block %d: %d", block, e)
		}
	}
	if e := Write(nil, 0, r); e != api.ErrDown {
		t.Error("no device", e)
	}
}

// P4.2: Put's error comes first, and then the device is left alone.
func TestWriteRefuses(t *testing.T) {
	for _, x := range refused() {
		d := blocks(t, Rec{1, 2, 3, "abc"})
		d.Fall(0)
		for _, block := range []int{0, 1, 3, -1, 5} {
			if e := Write(d, block, x.r); e != x.want || d.Down() {
				t.Errorf("block %d: %d, want %d", block, e, x.want)
			}
		}
		if e := Write(nil, 0, x.r); e != x.want {
			t.Errorf("no device: %d, want %d", e, x.want)
		}
		readsAs(t, "empty", d, 0, Rec{}, Empty, api.OK)
		readsAs(t, "good", d, 1, Rec{1, 2, 3, "abc"}, Good, api.OK)
		readsAs(t, "lost", d, 3, Rec{}, Bad, api.OK)
	}
}
