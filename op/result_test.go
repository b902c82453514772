package op

import (
	"math"
	"slices"
	"strings"
	"testing"

	"orchard/api"
	"orchard/pith"
)

// laidResult is the encoding of a result by the letter of P12.3.
func laidResult(r Result) string {
	b := pith.Num(nil, int(r.E))
	b = pith.Num(b, r.At)
	b = pith.Num(b, r.When)
	b = pith.Num(b, len(r.Outs))
	for _, o := range r.Outs {
		b = pith.Text(b, o.Path)
		b = pith.Num(b, o.Version)
	}
	return string(b)
}

// sameResult compares two results by the letter of P12.3.
func sameResult(a, b Result) bool {
	return a.E == b.E && a.At == b.At && a.When == b.When && slices.Equal(a.Outs, b.Outs)
}

// results are those that Answer accepts, among them all limits.
func results() []Result {
	outs := []Out{{"/a", 1}, {"", 0}, {long(60), pith.Most}, {"no path\xff", 258}}
	return []Result{
		{},
		{When: 258},
		{E: api.ErrNode, At: 1, When: 7, Outs: outs[:1]},
		{E: 9, At: 3, When: 1, Outs: outs[:2]},
		{E: 1023, At: 2, Outs: outs[:3]},
		{E: 1024, At: 4, When: pith.Most, Outs: outs},
		{Outs: slices.Repeat(outs[2:3], 4)},
	}
}

// P12.3: the encoding, byte by byte.
func TestResultByHand(t *testing.T) {
	r := Result{E: api.ErrNode, At: 3, When: 258, Outs: []Out{{"/a", 1}, {"", 7}}}
	want := six(11) + six(3) + "\x00\x00\x00\x00\x01\x02" + six(2) + "\x00\x02/a" + six(1) + "\x00\x00" + six(7)
	if got := r.Bytes(); got != want {
		t.Errorf("Bytes = %x\nwant  %x", got, want)
	}
	if got := (Result{}).Bytes(); got != strings.Repeat("\x00", 24) {
		t.Errorf("Bytes of nothing = %x", got)
	}
}

// P12.3: results are encoded by the letter, and read again, with none to four Outs.
func TestResultBytesAndAnswer(t *testing.T) {
	for _, r := range results() {
		text := r.Bytes()
		if text != laidResult(r) {
			t.Errorf("Bytes of %v = %x", r, text)
		}
		if len(text) > 400 {
			t.Errorf("layer 10 has no room for %d bytes", len(text))
		}
		if x, e := Answer(text); !sameResult(x, r) || e != api.OK {
			t.Errorf("Answer = %v, %d, want %v", x, e, r)
		}
	}
}

// P12.3, with P1.1: Bytes also encodes what Answer does not accept; numbers as the nearest that can be.
func TestResultBytesBounds(t *testing.T) {
	list := []Result{
		{E: -1, At: math.MinInt, When: -5, Outs: []Out{{"/a", math.MinInt}}},
		{E: math.MaxInt, At: pith.Most + 1, When: math.MaxInt, Outs: []Out{{"/a", math.MaxInt}}},
		{Outs: []Out{{long(65535), 1}}},
		{Outs: []Out{{long(65536), 1}, {"/b", 2}}},
		{Outs: slices.Repeat([]Out{{"/a", 3}}, 1000)},
	}
	for i, r := range list {
		if got := r.Bytes(); got != laidResult(r) {
			t.Errorf("%d: Bytes = %.60x", i, got)
		}
	}
	x, e := Answer(Result{E: -1, At: -1, When: -1, Outs: []Out{{"/a", -1}}}.Bytes())
	if !sameResult(x, Result{Outs: []Out{{"/a", 0}}}) || e != api.OK {
		t.Errorf("Answer = %v, %d", x, e)
	}
}

// P12.3: what is not the encoding of such a result is ErrForm, with nothing beside it.
func TestAnswerRefuses(t *testing.T) {
	check := func(what, text string) {
		t.Helper()
		if r, e := Answer(text); !sameResult(r, Result{}) || e != api.ErrForm {
			t.Errorf("%s: %.40x: %v, %d", what, text, r, e)
		}
	}
	check("nothing", "")
	check("a text", "no result at all, and no result at all")
	for _, r := range results() {
		text := laidResult(r)
		for size := range len(text) {
			check("truncated", text[:size])
		}
		check("extended", text+"\x00")
		check("twice", text+text)
		check("not at the start", "\x00"+text)
	}
	list := []Result{
		{E: 1025},
		{E: math.MaxInt},
		{At: 5},
		{At: math.MaxInt},
		{Outs: slices.Repeat([]Out{{}}, 5)},
		{Outs: slices.Repeat([]Out{{"/a", 1}}, 5)},
		{Outs: slices.Repeat([]Out{{"/a", 1}}, 100)},
		{Outs: []Out{{long(61), 1}}},
		{Outs: []Out{{"/a", 1}, {"/b", 1}, {"/c", 1}, {long(61), 1}}},
		{Outs: []Out{{long(65535), 1}}},
	}
	for _, r := range list {
		check("beyond a limit", laidResult(r))
	}
}

// P12.3: with a byte changed, an encoding is that of another result, or of none.
func TestAnswerChanged(t *testing.T) {
	for _, r := range results() {
		text := laidResult(r)
		for at := range len(text) {
			for _, bit := range []byte{1, 2, 4, 8, 16, 32, 64, 128, 255} {
				b := []byte(text)
				b[at] ^= bit
				x, e := Answer(string(b))
				switch {
				case e == api.ErrForm && sameResult(x, Result{}):
				case e == api.OK && x.Bytes() == string(b) && !sameResult(x, r):
				default:
					t.Fatalf("byte %d, %x: %v, %d", at, bit, x, e)
				}
			}
		}
	}
}

// P12.3: Same compares all fields.
func TestResultSame(t *testing.T) {
	full := func() Result {
		return Result{E: api.ErrNode, At: 1, When: 7, Outs: []Out{{"/a", 2}, {"/b", 3}}}
	}
	changes := []func(r *Result){
		func(r *Result) { r.E = api.OK },
		func(r *Result) { r.At = -1 },
		func(r *Result) { r.When = 8 },
		func(r *Result) { r.Outs = nil },
		func(r *Result) { r.Outs = r.Outs[:1] },
		func(r *Result) { r.Outs = append(r.Outs, Out{}) },
		func(r *Result) { r.Outs[0], r.Outs[1] = r.Outs[1], r.Outs[0] },
		func(r *Result) { r.Outs[0].Path = "/" },
		func(r *Result) { r.Outs[1].Version = 0 },
	}
	for i, change := range changes {
		a, b := full(), full()
		if !a.Same(b) {
			t.Errorf("not the same: %v, %v", a, b)
		}
		change(&b)
		if a.Same(b) || b.Same(a) || !b.Same(b) {
			t.Errorf("change %d: %v, %v", i, a, b)
		}
	}
	if a, b := (Result{Outs: []Out{}}), (Result{}); !a.Same(b) || !b.Same(a) {
		t.Error("an empty list is another one than nil")
	}
}
