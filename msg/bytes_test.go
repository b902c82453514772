package msg

import (
	"math"
	"math/rand"
	"strconv"
	"strings"
	"testing"

	"orchard/api"
	"orchard/chunk"
	"orchard/pith"
	"orchard/plog"
	"orchard/sum"
)

const ones = "\xff\xff\xff\xff\xff\xff" // layer 1's Most

// six is a small number as layer 1 encodes it.
func six(n byte) string {
	return "\x00\x00\x00\x00\x00" + string([]byte{n})
}

// laid is the encoding of a message by the letter of P14.2, whether it is valid or not.
func laid(m Msg) string {
	b := pith.Num(nil, int(m.Kind))
	b = pith.Num(b, m.From)
	b = pith.Num(b, m.To)
	b = pith.Num(b, m.Term)
	b = pith.Num(b, m.Index)
	b = pith.Num(b, m.LogTerm)
	b = pith.Num(b, m.Last)
	b = pith.Num(b, m.Commit)
	b = pith.Num(b, len(m.Entries))
	for _, x := range m.Entries {
		b = pith.Num(b, x.Index)
		b = pith.Num(b, x.Term)
		b = pith.Text(b, x.Data)
	}
	b = pith.Flag(b, m.Ok)
	b = pith.Num(b, int(m.State))
	b = pith.Num(b, m.List.Index)
	b = pith.Num(b, m.List.Term)
	b = pith.Num(b, m.List.Bytes)
	b = pith.Num(b, len(m.List.Sums))
	for _, x := range m.List.Sums {
		b = pith.Num(b, int(x))
	}
	b = pith.Num(b, m.Part)
	return string(pith.Text(b, m.Data))
}

// isZero reports whether a message is the zero one, without Same.
func isZero(m Msg) bool {
	return m.Kind == 0 && len(m.Entries) == 0 && len(m.List.Sums) == 0 && laid(m) == laid(Msg{})
}

// refused checks that Read returns ErrForm, and nothing beside it.
func refused(t *testing.T, what, text string) {
	t.Helper()
	if m, e := Read(text); !isZero(m) || e != api.ErrForm {
		t.Errorf("%s: %.60x: %.300v, %d", what, text, m, e)
	}
}

// sound checks that Read returns the message whose Bytes a text is, or ErrForm and nothing beside it.
func sound(t *testing.T, text string) {
	t.Helper()
	m, e := Read(text)
	got, f := m.Bytes()
	switch {
	case e == api.ErrForm && isZero(m):
	case e == api.OK && f == api.OK && got == text:
	default:
		t.Fatalf("%.300x: %.300v, %d; %.300x, %d", text, m, e, got, f)
	}
}

// P14.2: the encoding, byte by byte.
func TestBytesByHand(t *testing.T) {
	want := six(8) + six(21) + six(22) + six(23) + six(24) + six(25) + six(26) + six(27) + six(2) +
		six(31) + six(32) + "\x00\x05first" + six(33) + six(34) + "\x00\x08second\x00\xff" +
		"\x01" + six(3) + six(41) + six(42) + six(43) + six(3) + six(51) + six(52) + six(53) +
		six(28) + "\x00\x06part\n\x00"
	if got, e := full().Bytes(); got != want || e != api.OK {
		t.Errorf("Bytes = %x, %d\nwant  %x", got, e, want)
	}
	m := Msg{Kind: VoteAsk, Commit: pith.Most, Last: 258, List: chunk.List{Sums: []sum.Sum{0xe3069283}}}
	want = six(1) + strings.Repeat(six(0), 5) + "\x00\x00\x00\x00\x01\x02" + ones + six(0) +
		"\x00" + six(0) + six(0) + six(0) + six(0) + six(1) + "\x00\x00\xe3\x06\x92\x83" + six(0) + "\x00\x00"
	if got, e := m.Bytes(); got != want || e != api.OK {
		t.Errorf("Bytes = %x, %d\nwant  %x", got, e, want)
	}
}

// P14.2: each valid message is encoded by its letter, and read again.
func TestBytesAndRead(t *testing.T) {
	list := rightMsgs()
	for _, change := range changes() {
		list = append(list, with(change))
	}
	for _, m := range list {
		text, e := m.Bytes()
		if text != laid(m) || e != api.OK {
			t.Errorf("Bytes of %.300v = %.300x, %d", m, text, e)
		}
		x, e := Read(text)
		if e != api.OK || laid(x) != text || !x.Same(m) {
			t.Errorf("Read = %.300v, %d, want %.300v", x, e, m)
		}
	}
}

// P14.2: Bytes of a message that is not valid.
func TestBytesRefuses(t *testing.T) {
	for _, m := range wrongMsgs() {
		if text, e := m.Bytes(); text != "" || e != api.ErrArg {
			t.Errorf("Bytes of %.300v = %.60x, %d", m, text, e)
		}
	}
}

// P14.2: what is not the Bytes of a message is ErrForm, with nothing beside it.
func TestReadRefuses(t *testing.T) {
	refused(t, "nothing", "")
	refused(t, "a text", "no message at all")
	refused(t, "a long text", strings.Repeat("no message at all ", 1000))
	refused(t, "zeros", strings.Repeat("\x00", 93))
	refused(t, "ones", strings.Repeat("\xff", 93))
	for _, m := range append(rightMsgs()[:12], rightMsgs()[len(rightMsgs())-1]) {
		text := laid(m)
		for size := range len(text) {
			refused(t, "truncated to "+strconv.Itoa(size), text[:size])
		}
		for _, more := range []string{"\x00", "x", six(0), text} {
			refused(t, "extended", text+more)
		}
		refused(t, "not at the start", "\x00"+text)
		refused(t, "not at the start", six(1)+text)
		for _, size := range []int{1, 2, 6, 8} {
			refused(t, "without its start", text[size:])
		}
	}
	for _, m := range wrongSizes() {
		refused(t, "too long", laid(m))
	}
	refused(t, "the zero message", laid(Msg{}))
	for _, kind := range []Kind{0, 9, 10, 255, 256, pith.Most} {
		refused(t, "no kind", laid(with(func(m *Msg) { m.Kind = kind })))
	}
	for _, state := range []plog.State{4, 5, 255, 256, pith.Most} {
		refused(t, "no state", laid(with(func(m *Msg) { m.State = state })))
	}
}

// place is where bytes of an encoding are replaced, and whether there is such a message.
type place struct {
	at   int
	to   string
	want bool
}

// P14.2: numbers, flags and lengths that are out of range, each in its place.
func TestReadOutOfRange(t *testing.T) {
	text := laid(full())
	first := 54 + 12   // the length of the first entry's Data
	second := 73 + 12  // and of the second one's
	ok := second + 10  // the flag
	state := ok + 1    // followed by the List
	list := state + 6  // its numbers
	sums := list + 4*6 // its sums
	data := sums + 4*6 // the length of Data
	places := []place{
		{0, six(1), true}, {0, six(7), true}, {0, six(0), false}, {0, six(9), false}, {0, ones, false},
		{0, "\x80" + six(1)[1:], false}, {0, "\x00\x00\x00\x00\x01\x01", false},
		{48, six(0), false}, {48, six(1), false}, {48, six(3), false}, {48, six(5), false}, {48, ones, false},
		{first, "\x00\x04", false}, {first, "\x00\x06", false}, {first, "\x01\xe9", false}, {first, "\xff\xff", false},
		{second, "\x00\x07", false}, {second, "\x00\x09", false}, {second, "\x01\xe9", false}, {second, "\xff\xff", false},
		{ok, "\x00", true}, {ok, "\x02", false}, {ok, "\x80", false}, {ok, "\xff", false},
		{state, six(0), true}, {state, six(1), true}, {state, six(2), true}, {state, six(4), false},
		{state, six(255), false}, {state, ones, false}, {state, "\x80" + six(1)[1:], false},
		{list + 18, six(0), false}, {list + 18, six(2), false}, {list + 18, six(4), false},
		{list + 18, six(64), false}, {list + 18, six(65), false}, {list + 18, ones, false},
		{data, "\x00\x05", false}, {data, "\x00\x07", false}, {data, "\x01\x91", false}, {data, "\xff\xff", false},
	}
	for _, at := range []int{6, 12, 18, 24, 30, 36, 42, 54, 60, 73, 79, list, list + 6, list + 12, data - 6} {
		places = append(places, place{at, six(0), true}, place{at, ones, true})
	}
	for _, at := range []int{sums, sums + 6, sums + 12} {
		places = append(places, place{at, six(0), true}, place{at, "\x00\x00\xff\xff\xff\xff", true},
			place{at, "\x00\x01\x00\x00\x00\x00", false}, place{at, ones, false})
	}
	for _, x := range places {
		changed := text[:x.at] + x.to + text[x.at+len(x.to):]
		m, e := Read(changed)
		if x.want && (e != api.OK || laid(m) != changed) || !x.want && (e != api.ErrForm || !isZero(m)) {
			t.Errorf("%x at %d: %v, %d", x.to, x.at, m, e)
		}
	}
}

// P14.2: how many entries, sums and bytes there are, at the limits and one beyond, with all of them there.
func TestReadLimits(t *testing.T) {
	check := func(change func(m *Msg), want api.Errno) {
		t.Helper()
		m := with(change)
		if x, e := Read(laid(m)); e != want || e == api.OK && !x.Same(m) || e != api.OK && !isZero(x) {
			t.Errorf("Read of %.300v = %.300v, %d, want %d", m, x, e, want)
		}
	}
	check(func(m *Msg) { m.Entries = entries(4, 488) }, api.OK)
	check(func(m *Msg) { m.Entries = entries(5, 0) }, api.ErrForm)
	check(func(m *Msg) { m.Entries = entries(1, 489) }, api.ErrForm)
	check(func(m *Msg) { m.List.Sums = sums(64) }, api.OK)
	check(func(m *Msg) { m.List.Sums = sums(65) }, api.ErrForm)
	check(func(m *Msg) { m.Data = long(400) }, api.OK)
	check(func(m *Msg) { m.Data = long(401) }, api.ErrForm)
	check(func(m *Msg) { m.State = 3 }, api.OK)
	check(func(m *Msg) { m.State = 4 }, api.ErrForm)
	check(func(m *Msg) { m.Kind = 8 }, api.OK)
	check(func(m *Msg) { m.Kind = 9 }, api.ErrForm)
}

// P14.2: with a byte changed, an encoding is that of another message, or of none.
func TestReadChanged(t *testing.T) {
	for _, m := range append(rightMsgs()[:8], Msg{Kind: Give, Entries: entries(4, 3), List: chunk.List{Sums: sums(5)}}) {
		text := laid(m)
		for at := range len(text) {
			for _, bit := range []byte{1, 2, 4, 8, 16, 32, 64, 128, 255} {
				b := []byte(text)
				b[at] ^= bit
				sound(t, string(b))
				if x, _ := Read(string(b)); x.Same(m) {
					t.Fatalf("byte %d, %x: the same message", at, bit)
				}
			}
		}
	}
}

// random returns a valid message.
func random(r *rand.Rand) Msg {
	number := func() int { return r.Intn(pith.Most+1) >> r.Intn(48) }
	m := Msg{
		Kind: Kind(1 + r.Intn(8)), Ok: r.Intn(2) == 0, State: plog.State(r.Intn(4)), Data: long(r.Intn(401)),
		Entries: entries(r.Intn(5), r.Intn(489)),
	}
	for range r.Intn(65) {
		m.List.Sums = append(m.List.Sums, sum.Sum(r.Intn(math.MaxUint32+1)))
	}
	for _, n := range numbers(&m) {
		*n = number()
	}
	return m
}

// P14.2: random messages, and whether two of them are equal.
func TestRandom(t *testing.T) {
	r := rand.New(rand.NewSource(14))
	for range 3000 {
		m := random(r)
		text, e := m.Bytes()
		if text != laid(m) || e != api.OK {
			t.Fatalf("Bytes of %.300v = %.300x, %d", m, text, e)
		}
		x, e := Read(text)
		if e != api.OK || !x.Same(m) || laid(x) != text {
			t.Fatalf("Read = %.300v, %d, want %.300v", x, e, m)
		}
		if o := random(r); m.Same(o) != (laid(o) == text) {
			t.Fatalf("Same is %v of %.300v, %.300v", m.Same(o), m, o)
		}
		at := r.Intn(len(text))
		refused(t, "truncated", text[:at])
		sound(t, text[:at]+text[at+1:])
		sound(t, text[:at]+string([]byte{byte(r.Intn(256))})+text[at:])
		sound(t, text[:at]+string([]byte{byte(r.Intn(256))})+text[at+1:])
	}
}

// P14.2, with rule 4: Bytes does not change the message, and what Read returns is new.
func TestOwnMemory(t *testing.T) {
	m := with(func(m *Msg) {
		m.Entries = append(m.Entries, entries(2, 5)...)[:2]
		m.List.Sums = append(m.List.Sums, 99)[:3]
	})
	text, _ := m.Bytes()
	if !m.Same(full()) || m.Entries[:3][2].Index != 7 || m.List.Sums[:4][3] != 99 {
		t.Error("Bytes changed the message")
	}
	a, _ := Read(text)
	b, _ := Read(text)
	a.Entries[0].Data, a.List.Sums[0] = "changed", 0
	if !b.Same(full()) || b.Entries[0].Data != "first" || b.List.Sums[0] != 51 {
		t.Error("two messages share a list")
	}
}
