package op

import (
	"math"
	"slices"
	"strconv"
	"strings"
	"testing"

	"orchard/api"
	"orchard/pith"
)

// long returns so many bytes.
func long(size int) string {
	return strings.Repeat("0123456789", size/10+1)[:size]
}

// six is a small number as layer 1 encodes it.
func six(n byte) string {
	return "\x00\x00\x00\x00\x00" + string([]byte{n})
}

// laid is the encoding of a command by the letter of P12.2, whether it is valid or not.
func laid(c Cmd) string {
	b := pith.Num(nil, int(c.Kind))
	b = pith.Num(b, c.Session)
	b = pith.Num(b, c.Req)
	b = pith.Num(b, c.Noted)
	b = pith.Num(b, len(c.Ops))
	for _, o := range c.Ops {
		b = pith.Num(b, int(o.Does))
		b = pith.Num(b, o.Version+1)
		b = pith.Text(b, o.Path)
		b = pith.Text(b, o.Data)
		b = pith.Flag(b, o.Serial)
		b = pith.Flag(b, o.Own)
	}
	b = pith.Text(b, c.Path)
	b = pith.Flag(b, c.Kids)
	return string(pith.Flag(b, c.Once))
}

// same compares two commands by the letter of P12.2.
func same(a, b Cmd) bool {
	if len(a.Ops) != len(b.Ops) {
		return false
	}
	for i := range a.Ops {
		if a.Ops[i] != b.Ops[i] {
			return false
		}
	}
	return a.Kind == b.Kind && a.Session == b.Session && a.Req == b.Req && a.Noted == b.Noted &&
		a.Path == b.Path && a.Kids == b.Kids && a.Once == b.Once
}

// rightOps are valid operations, among them each Does, and all limits.
func rightOps() []Op {
	return []Op{
		{Does: Create},
		{Does: Create, Path: "/a", Data: "x", Version: -1, Serial: true, Own: true},
		{Does: Create, Path: "/a", Serial: true},
		{Does: Create, Path: "/a", Own: true},
		{Does: Set, Path: "/", Data: "two\x00three\xff", Version: 258},
		{Does: Delete, Path: "/a/b", Version: -1},
		{Does: Check, Path: "no path", Version: 0},
		{Does: Set, Path: long(59), Data: long(60), Version: pith.Most - 2},
		{Does: Check, Path: long(60), Data: long(61), Version: pith.Most - 1},
	}
}

// wrongOps are operations that are not valid, each for one reason.
func wrongOps() []Op {
	return []Op{
		{},
		{Does: 0, Path: "/a"},
		{Does: 5, Path: "/a"},
		{Does: -1, Path: "/a"},
		{Does: math.MinInt, Path: "/a"},
		{Does: math.MaxInt, Path: "/a"},
		{Does: Create, Path: long(61)},
		{Does: Create, Path: long(100000)},
		{Does: Set, Path: "/a", Data: long(62)},
		{Does: Set, Path: "/a", Data: long(100000)},
		{Does: Delete, Path: "/a", Version: -2},
		{Does: Delete, Path: "/a", Version: math.MinInt},
		{Does: Check, Path: "/a", Version: pith.Most},
		{Does: Check, Path: "/a", Version: pith.Most + 1},
		{Does: Check, Path: "/a", Version: math.MaxInt},
	}
}

// times returns so many operations.
func times(n int, o Op) []Op {
	return slices.Repeat([]Op{o}, n)
}

// fits returns an Update of valid operations whose encoding has so many bytes (100 to 488).
func fits(size int) Cmd {
	c := Made(1, 2)
	for left := size - 34; left > 0; {
		texts := min(left-18, 121)
		if rest := left - 18 - texts; rest > 0 && rest < 18 {
			texts -= 18 // what is left is enough for another one
		}
		o := Op{Does: Set, Path: long(min(texts, 60)), Data: long(max(texts-60, 0)), Version: -1}
		c.Ops = append(c.Ops, o)
		left -= 18 + texts
	}
	return c
}

// rightCmds are valid commands whose encodings are not too long, among them each Kind, and all limits.
func rightCmds() []Cmd {
	list := []Cmd{
		{},
		{Kind: Open, Session: 5},
		{Kind: Close, Session: 5, Req: 9, Noted: 3},
		{Kind: Update},
		{Kind: Watch, Session: 1, Req: 2, Path: "/a", Kids: true},
		{Kind: Watch, Session: 1, Req: 2, Path: "/a", Once: true},
		{Kind: Watch, Session: 1, Req: 2, Path: "no path", Kids: true, Once: true},
		{Kind: Sync, Session: 258, Req: 65536, Noted: 7},
		{Kind: Sync, Session: pith.Most, Req: pith.Most, Noted: pith.Most, Path: long(60)},
		{Kind: Watch, Path: long(59)},
		{Kind: Empty, Ops: times(4, Op{Does: Check, Path: "/"}), Path: "/b"},
		Made(3, 4, times(3, Op{Does: Create, Path: "/a", Serial: true})...),
		fits(487),
		fits(488),
	}
	for _, o := range rightOps() {
		list = append(list, Made(1, 1, o), Cmd{Kind: Sync, Req: 5, Ops: []Op{o, {Does: Set}}})
	}
	return list
}

// wrongCmds are commands that are not valid, each for one reason.
func wrongCmds() []Cmd {
	list := []Cmd{
		{Kind: -1},
		{Kind: 6},
		{Kind: math.MinInt},
		{Kind: math.MaxInt},
		{Kind: Watch, Path: long(61)},
		{Kind: Watch, Path: long(100000)},
		Made(1, 1, times(5, Op{Does: Check, Path: "/"})...),
		Made(1, 1, times(1000, Op{Does: Check, Path: "/"})...),
	}
	for _, n := range []int{math.MinInt, -2, -1, pith.Most + 1, math.MaxInt} {
		list = append(list, Cmd{Kind: Open, Session: n}, Cmd{Kind: Sync, Req: n}, Cmd{Kind: Close, Noted: n})
	}
	for _, o := range wrongOps() {
		good := Op{Does: Check, Path: "/"}
		list = append(list, Made(1, 1, o), Made(1, 1, o, good), Made(1, 1, good, good, good, o))
	}
	return list
}

// P12.1: the numbers of what operations do, and of the kinds of commands.
func TestNumbers(t *testing.T) {
	if !slices.Equal([]Does{Create, Set, Delete, Check}, []Does{1, 2, 3, 4}) {
		t.Error(Create, Set, Delete, Check)
	}
	if !slices.Equal([]Kind{Empty, Open, Close, Update, Watch, Sync}, []Kind{0, 1, 2, 3, 4, 5}) {
		t.Error(Empty, Open, Close, Update, Watch, Sync)
	}
}

// P12.1: which operations are valid.
func TestOpRight(t *testing.T) {
	for _, o := range rightOps() {
		if !o.Right() {
			t.Errorf("not valid: %.200v", o)
		}
	}
	for _, o := range wrongOps() {
		if o.Right() {
			t.Errorf("valid: %.200v", o)
		}
	}
}

// P12.1: which commands are valid; also one that is too long to be encoded.
func TestCmdRight(t *testing.T) {
	tooLong := Made(1, 1, times(4, Op{Does: Set, Path: long(60), Data: long(61)})...)
	for _, c := range append(rightCmds(), fits(489), tooLong) {
		if !c.Right() {
			t.Errorf("not valid: %.200v", c)
		}
	}
	for _, c := range wrongCmds() {
		if c.Right() {
			t.Errorf("valid: %.200v", c)
		}
	}
}

// P12.1: Made sets three fields, whether they are valid or not.
func TestMade(t *testing.T) {
	ops := []Op{{Does: Create, Path: "/a"}, {Does: 9, Version: -7}}
	for _, n := range []int{math.MinInt, -1, 0, 5, pith.Most + 1} {
		want := Cmd{Kind: Update, Session: n, Req: n - 1, Ops: ops}
		if c := Made(n, n-1, ops...); !same(c, want) {
			t.Errorf("Made = %v, want %v", c, want)
		}
		if c := Made(n, n-1); !same(c, Cmd{Kind: Update, Session: n, Req: n - 1}) {
			t.Errorf("Made = %v", c)
		}
	}
}

// P12.1, with rule 4: Made does not retain its list.
func TestMadeIsNew(t *testing.T) {
	list := []Op{{Does: Create, Path: "/a"}, {Does: Set, Path: "/b"}}
	c := Made(1, 1, list[:1]...)
	list[0].Path = "/x"
	if c.Ops[0].Path != "/a" {
		t.Error("Made retained its list")
	}
	_ = append(c.Ops, Op{Does: Delete})
	if list[1].Does != Set {
		t.Error("Made returned its list")
	}
}

// P12.1, with P8.1: Touches asks for the paths of the operations alone.
func TestTouches(t *testing.T) {
	for _, s := range []string{"/", "/a", "/a/b-c/0", strings.Repeat("/abcdefghi", 6)} {
		good := Op{Does: Set, Path: s}
		for _, c := range []Cmd{Made(1, 1, good), Made(1, 1, times(4, good)...), {Path: "no path", Ops: []Op{good}},
			{Kind: 99, Session: -1, Ops: times(9, Op{Path: s, Version: -9})}} {
			if !c.Touches() {
				t.Errorf("%q: Touches is false of %v", s, c)
			}
		}
		for _, bad := range []string{"", "a", "/a/", "//", "/A", "/" + long(21), strings.Repeat("/abcdefghi", 6) + "/"} {
			wrong := Op{Does: Set, Path: bad}
			for _, list := range [][]Op{{wrong}, {wrong, good}, {good, wrong}, {good, good, wrong, good}} {
				if Made(1, 1, list...).Touches() {
					t.Errorf("Touches is true of %v", list)
				}
			}
		}
	}
	for _, c := range []Cmd{{}, Made(1, 1), {Kind: Watch, Path: "no path"}} {
		if !c.Touches() {
			t.Errorf("Touches is false without operations: %v", c)
		}
	}
}

// P12.2: the encoding, byte by byte.
func TestBytesByHand(t *testing.T) {
	c := Cmd{Kind: Watch, Session: 5, Req: 1, Noted: 2, Path: "/abc", Kids: true}
	c.Ops = []Op{{Does: Delete, Path: "/a", Data: "x", Version: 6, Own: true}, {Does: Create, Version: -1, Serial: true}}
	want := six(4) + six(5) + six(1) + six(2) + six(2) +
		six(3) + six(7) + "\x00\x02/a" + "\x00\x01x" + "\x00\x01" +
		six(1) + six(0) + "\x00\x00" + "\x00\x00" + "\x01\x00" +
		"\x00\x04/abc" + "\x01\x00"
	if got, e := c.Bytes(); got != want || e != api.OK {
		t.Errorf("Bytes = %x, %d\nwant  %x", got, e, want)
	}
	c = Cmd{Kind: Sync, Session: pith.Most, Once: true}
	want = six(5) + "\xff\xff\xff\xff\xff\xff" + six(0) + six(0) + six(0) + "\x00\x00" + "\x00\x01"
	if got, e := c.Bytes(); got != want || e != api.OK {
		t.Errorf("Bytes = %x, %d\nwant  %x", got, e, want)
	}
}

// P12.2: each valid command is encoded by its letter, and read again.
func TestBytesAndRead(t *testing.T) {
	for _, c := range rightCmds() {
		text, e := c.Bytes()
		if text != laid(c) || e != api.OK {
			t.Errorf("Bytes of %v = %x, %d", c, text, e)
		}
		d, e := Read(text)
		if !same(c, d) || e != api.OK {
			t.Errorf("Read = %v, %d, want %v", d, e, c)
		}
	}
	for size := 100; size <= 488; size++ {
		c := fits(size)
		text, e := c.Bytes()
		if len(text) != size || e != api.OK {
			t.Fatalf("%d bytes: %d, %d", size, len(text), e)
		}
		if d, e := Read(text); !same(c, d) || e != api.OK {
			t.Errorf("%d bytes: Read = %v, %d", size, d, e)
		}
	}
}

// P12.2: Bytes of what is not valid, and of what is too long.
func TestBytesRefuses(t *testing.T) {
	check := func(c Cmd, want api.Errno) {
		t.Helper()
		if text, e := c.Bytes(); text != "" || e != want {
			t.Errorf("Bytes of %.200v = %.20q, %d, want %d", c, text, e, want)
		}
	}
	for _, c := range wrongCmds() {
		check(c, api.ErrArg)
	}
	tooLong := times(4, Op{Does: Set, Path: long(60), Data: long(61)})
	check(fits(489), api.ErrLong)
	check(fits(490), api.ErrLong)
	check(Made(1, 1, tooLong...), api.ErrLong)
	check(Cmd{Kind: Empty, Ops: tooLong, Path: long(60)}, api.ErrLong)
	for _, c := range wrongCmds() {
		if len(c.Ops) < 4 {
			c.Ops = append(slices.Clone(tooLong[len(c.Ops):]), c.Ops...)
		}
		check(c, api.ErrArg)
	}
}

// P12.2: what is not the Bytes of a command is ErrForm, with nothing beside it.
func TestReadRefuses(t *testing.T) {
	check := func(what, text string) {
		t.Helper()
		if c, e := Read(text); !same(c, Cmd{}) || e != api.ErrForm {
			t.Errorf("%s: %.40x: %v, %d", what, text, c, e)
		}
	}
	check("nothing", "")
	check("a text", "no command at all")
	check("zeros", strings.Repeat("\x00", 488))
	for _, c := range rightCmds() {
		text := laid(c)
		for size := range len(text) {
			check("truncated to "+strconv.Itoa(size), text[:size])
		}
		for _, more := range []string{"\x00", "x", text} {
			check("extended", text+more)
		}
		check("not at the start", "\x00"+text)
	}
	for _, size := range []int{489, 490, 500} {
		check("too long", laid(fits(size)))
	}
	check("too long", laid(Cmd{Kind: Sync, Ops: times(4, rightOps()[8]), Path: long(60)}))
	for _, c := range wrongCmds() {
		c.Session, c.Req, c.Noted = max(c.Session, 0), max(c.Req, 0), max(c.Noted, 0)
		if d, e := Read(laid(c)); e == api.OK && laid(d) == laid(c) {
			continue // its numbers are encoded as those of another command
		}
		check("not valid", laid(c))
	}
}

// P12.2: numbers and flags that are out of range, each in its place.
func TestReadOutOfRange(t *testing.T) {
	c := Cmd{Kind: Sync, Session: 1, Req: 2, Noted: 3, Ops: []Op{{Does: Check, Path: "/a", Data: "x", Version: 4}}, Path: "/b"}
	text := laid(c)
	op := 30
	flags := op + 12 + 4 + 3
	last := len(text) - 2
	list := []struct {
		at   int
		to   string
		want bool
	}{
		{0, six(5), true}, {0, six(6), false}, {0, six(255), false}, {0, "\x80" + six(0)[1:], false},
		{24, six(0), false}, {24, six(2), false}, {24, six(5), false}, {24, "\xff\xff\xff\xff\xff\xff", false},
		{op, six(0), false}, {op, six(1), true}, {op, six(4), true}, {op, six(5), false}, {op, six(255), false},
		{op + 6, six(0), true}, {op + 6, "\xff\xff\xff\xff\xff\xff", true},
		{op + 12, "\x00\x01", false}, {op + 12, "\x00\x3d", false}, {op + 12, "\xff\xff", false},
		{flags, "\x01", true}, {flags, "\x02", false}, {flags, "\xff", false},
		{flags + 1, "\x01", true}, {flags + 1, "\x02", false}, {flags + 1, "\x80", false},
		{last, "\x01", true}, {last, "\x02", false}, {last, "\x00\x02", false}, {last, "\x00\x01", true}, {last, "\x01\xff", false},
	}
	for _, n := range []int{6, 12, 18} {
		list = append(list, struct {
			at   int
			to   string
			want bool
		}{n, "\xff\xff\xff\xff\xff\xff", true})
	}
	for _, x := range list {
		changed := text[:x.at] + x.to + text[x.at+len(x.to):]
		d, e := Read(changed)
		if x.want && (e != api.OK || laid(d) != changed) || !x.want && (e != api.ErrForm || !same(d, Cmd{})) {
			t.Errorf("%x at %d: %v, %d", x.to, x.at, d, e)
		}
	}
}

// P12.2: texts at their limits, and one byte beyond.
func TestReadLongTexts(t *testing.T) {
	check := func(c Cmd, want api.Errno) {
		t.Helper()
		if d, e := Read(laid(c)); e != want || e == api.OK && !same(c, d) {
			t.Errorf("Read of %v = %v, %d, want %d", c, d, e, want)
		}
	}
	check(Cmd{Path: long(60)}, api.OK)
	check(Cmd{Path: long(61)}, api.ErrForm)
	check(Made(1, 1, Op{Does: Set, Path: long(60)}), api.OK)
	check(Made(1, 1, Op{Does: Set, Path: long(61)}), api.ErrForm)
	check(Made(1, 1, Op{Does: Set, Data: long(61)}), api.OK)
	check(Made(1, 1, Op{Does: Set, Data: long(62)}), api.ErrForm)
	check(Made(1, 1, times(4, Op{Does: Set})...), api.OK)
	check(Made(1, 1, times(5, Op{Does: Set})...), api.ErrForm)
	check(fits(488), api.OK)
	check(fits(489), api.ErrForm)
}

// P12.2: with a byte changed, an encoding is that of another command, or of none.
func TestReadChanged(t *testing.T) {
	for _, c := range rightCmds()[:12] {
		text := laid(c)
		for at := range len(text) {
			for _, bit := range []byte{1, 2, 4, 8, 16, 32, 64, 128, 255} {
				b := []byte(text)
				b[at] ^= bit
				d, e := Read(string(b))
				got, f := d.Bytes()
				switch {
				case e == api.ErrForm && same(d, Cmd{}):
				case e == api.OK && f == api.OK && got == string(b) && !same(c, d):
				default:
					t.Fatalf("byte %d, %x: %v, %d; %x, %d", at, bit, d, e, got, f)
				}
			}
		}
	}
}

// P12.2: Same compares all fields, also of commands that are not valid.
func TestCmdSame(t *testing.T) {
	full := func() Cmd {
		return Cmd{Kind: Update, Session: 1, Req: 2, Noted: 3, Path: "/a", Kids: true, Once: true,
			Ops: []Op{{Does: Create, Path: "/b", Data: "x", Version: 4, Serial: true, Own: true}, {Does: Check}}}
	}
	changes := []func(c *Cmd){
		func(c *Cmd) { c.Kind = Sync },
		func(c *Cmd) { c.Session = 9 },
		func(c *Cmd) { c.Req = -2 },
		func(c *Cmd) { c.Noted++ },
		func(c *Cmd) { c.Path = "/" },
		func(c *Cmd) { c.Kids = false },
		func(c *Cmd) { c.Once = false },
		func(c *Cmd) { c.Ops = nil },
		func(c *Cmd) { c.Ops = c.Ops[:1] },
		func(c *Cmd) { c.Ops = append(c.Ops, Op{}) },
		func(c *Cmd) { c.Ops[0], c.Ops[1] = c.Ops[1], c.Ops[0] },
		func(c *Cmd) { c.Ops[0].Does = Set },
		func(c *Cmd) { c.Ops[0].Path = "/bb" },
		func(c *Cmd) { c.Ops[0].Data = "" },
		func(c *Cmd) { c.Ops[0].Version = -1 },
		func(c *Cmd) { c.Ops[0].Serial = false },
		func(c *Cmd) { c.Ops[0].Own = false },
		func(c *Cmd) { c.Ops[1].Own = true },
	}
	for i, change := range changes {
		a, b := full(), full()
		if !a.Same(b) {
			t.Errorf("not the same: %v, %v", a, b)
		}
		change(&b)
		if a.Same(b) || b.Same(a) || !b.Same(b) {
			t.Errorf("change %d: %v, %v", i, a, b)
		}
	}
	if a, b := (Cmd{Ops: []Op{}}), (Cmd{}); !a.Same(b) || !b.Same(a) {
		t.Error("an empty list is another one than nil")
	}
}
