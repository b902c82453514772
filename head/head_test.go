package head

import (
	"math"
	"strings"
	"testing"

	"orchard/api"
	"orchard/dev"
	"orchard/pith"
	"orchard/slot"
)

// fresh is the head of a device on which none was put.
var fresh = Head{First: 1}

// heads are some that may be put, the limits among them.
func heads() []Head {
	return []Head{
		{First: 1},
		{Term: 3, Vote: 2, First: 5, Base: 1},
		{Term: 9, First: 1},
		{Vote: 7, First: 2},
		{First: 258, Base: 257},
		{Term: pith.Most, Vote: api.MaxPeers, First: pith.Most, Base: pith.Most},
	}
}

// number is a number as layer 1 encodes it, for numbers below 256.
func number(n int) string {
	return "\x00\x00\x00\x00\x00" + string([]byte{byte(n)})
}

// copyOf is the copy of a head by the letter of P5.1.
func copyOf(index int, h Head) slot.Rec {
	return slot.Rec{Kind: 1, Index: index, Term: h.Term, Data: string(pith.Num(nil, h.Vote, h.First, h.Base))}
}

// device returns a device with these durable blocks; the zero Rec leaves one empty.
func device(t *testing.T, list ...slot.Rec) *dev.Device {
	t.Helper()
	d := dev.New(len(list))
	for i, r := range list {
		if r == (slot.Rec{}) {
			continue
		}
		if e := slot.Write(d, i, r); e != api.OK {
			t.Fatalf("block %d: %d", i, e)
		}
	}
	d.Flush()
	return d
}

// opens checks that Open returns a head, and returns its store.
func opens(t *testing.T, what string, d *dev.Device, want Head) *Store {
	t.Helper()
	s, e := Open(d)
	if s == nil || e != api.OK {
		t.Fatalf("%s: error %d, want %v", what, e, want)
	}
	if s.Head() != want {
		t.Errorf("%s: %v, want %v", what, s.Head(), want)
	}
	return s
}

// refuses checks that Open returns an error, and no store.
func refuses(t *testing.T, what string, d *dev.Device, want api.Errno) {
	t.Helper()
	if s, e := Open(d); s != nil || e != want {
		t.Errorf("%s: %v, %d, want the error %d", what, s, e, want)
	}
}

// puts puts a head.
func puts(t *testing.T, s *Store, h Head) {
	t.Helper()
	if e := s.Put(h); e != api.OK || s.Head() != h {
		t.Fatalf("Put(%v) = %d, the head is %v", h, e, s.Head())
	}
}

// scrubs checks that Scrub returns OK, and that the head remains.
func scrubs(t *testing.T, what string, s *Store) {
	t.Helper()
	was := s.Head()
	if e := s.Scrub(); e != api.OK || s.Head() != was {
		t.Errorf("%s: Scrub = %d, the head is %v, want %v", what, e, s.Head(), was)
	}
}

// contains checks what the blocks from 0 on are; the zero Rec is an empty one.
func contains(t *testing.T, what string, d *dev.Device, list ...slot.Rec) {
	t.Helper()
	for i, want := range list {
		got, state, e := slot.Read(d, i)
		if got != want || e != api.OK || (state == slot.Empty) != (want == slot.Rec{}) || state == slot.Bad {
			t.Errorf("%s: block %d is %v, %d, %d, want %v", what, i, got, state, e, want)
		}
	}
}

// P5.1: a copy is a block of Kind 1 with the number of times, the Term, and the numbers Vote, First and Base.
func TestCopies(t *testing.T) {
	if Blocks != 2 {
		t.Error(Blocks)
	}
	d := dev.New(4)
	s := opens(t, "new", d, fresh)
	puts(t, s, Head{Term: 3, Vote: 2, First: 5, Base: 1})
	one := slot.Rec{Kind: 1, Index: 1, Term: 3, Data: number(2) + number(5) + number(1)}
	contains(t, "put", d, one, one, slot.Rec{}, slot.Rec{})
	puts(t, s, Head{Term: 4, First: 200})
	two := slot.Rec{Kind: 1, Index: 2, Term: 4, Data: number(0) + number(200) + number(0)}
	contains(t, "put again", d, two, two, slot.Rec{}, slot.Rec{})
	contains(t, "durable", d.Crash(), two, two, slot.Rec{}, slot.Rec{})
}

// P5.1: on a device on which none was put, First is 1 and all else 0.
func TestOpenNew(t *testing.T) {
	for _, size := range []int{2, 3, api.MaxBlocks} {
		d := dev.New(size)
		opens(t, "new", d, fresh)
		contains(t, "opened", d, slot.Rec{}, slot.Rec{})
	}
}

// P5.1, P5.2: what was put is what Head and Open return, however often.
func TestPutAndOpen(t *testing.T) {
	d := dev.New(2)
	s := opens(t, "new", d, fresh)
	n := 0
	for _, h := range append(heads(), heads()...) {
		puts(t, s, h)
		n++
		contains(t, "put", d, copyOf(n, h), copyOf(n, h))
		opens(t, "put", d, h)
		d = d.Crash()
		s = opens(t, "put, Crash", d, h)
	}
}

// P5.1: Open returns the device's first error of reading.
func TestOpenFails(t *testing.T) {
	refuses(t, "no device", nil, api.ErrDown)
	refuses(t, "no blocks", dev.New(0), api.ErrNone)
	refuses(t, "one block", dev.New(1), api.ErrNone)
	refuses(t, "one block, with a copy", device(t, copyOf(1, fresh)), api.ErrNone)
	lost := dev.New(1)
	lost.Lose(0)
	refuses(t, "one block, lost", lost, api.ErrNone)
	d := device(t, copyOf(1, fresh), copyOf(1, fresh))
	d.Fall(0)
	opens(t, "power that has not failed yet", d, fresh)
	d.Flush()
	refuses(t, "without power", d, api.ErrDown)
	small := dev.New(0)
	small.Fall(0)
	small.Flush()
	refuses(t, "without power and blocks", small, api.ErrDown)
}

// P5.1: of two good copies that with the greater Index counts, and of equal ones the first.
func TestOpenGreater(t *testing.T) {
	a, b := Head{Term: 5, Vote: 1, First: 4, Base: 2}, Head{Term: 3, Vote: 2, First: 9, Base: 7}
	for _, x := range []struct {
		one, two int
		want     Head
	}{
		{1, 1, a}, {2, 1, a}, {1, 2, b}, {7, 7, a}, {pith.Most, 1, a}, {255, 256, b}, {pith.Most - 1, pith.Most, b},
	} {
		opens(t, "two copies", device(t, copyOf(x.one, a), copyOf(x.two, b)), x.want)
	}
}

// notCopies are blocks that are neither empty nor copies.
func notCopies() map[string]slot.Rec {
	data := copyOf(1, fresh).Data
	return map[string]slot.Rec{
		"of Kind 0":         {Kind: 0, Index: 9, Term: 1, Data: data},
		"of Kind 2":         {Kind: 2, Index: 9, Term: 1, Data: data},
		"with a Vote of 8":  copyOf(9, Head{Vote: 8, First: 1}),
		"with a great Vote": copyOf(9, Head{Vote: pith.Most, First: 1}),
		"without data":      {Kind: 1, Index: 9, Term: 1},
		"with two numbers":  {Kind: 1, Index: 9, Term: 1, Data: data[:12]},
		"with a byte less":  {Kind: 1, Index: 9, Term: 1, Data: data[:17]},
		"with a byte more":  {Kind: 1, Index: 9, Term: 1, Data: data + "\x00"},
		"with four numbers": {Kind: 1, Index: 9, Term: 1, Data: data + number(0)},
	}
}

// spoilers make a block bad, each in a way of its own.
func spoilers() map[string]func(d *dev.Device, block int) {
	list := map[string]func(d *dev.Device, block int){
		"lost": func(d *dev.Device, block int) { d.Lose(block) },
		"flipped": func(d *dev.Device, block int) {
			slot.Write(d, block, copyOf(9, Head{Term: 9, First: 9}))
			d.Flush()
			d.Flip(block, 13, 1)
		},
		"something else": func(d *dev.Device, block int) { d.Write(block, strings.Repeat("x", 42)) },
		"half a copy": func(d *dev.Device, block int) {
			s, _ := slot.Put(copyOf(9, Head{Term: 9, First: 9}))
			d.Write(block, s[:len(s)/2])
		},
	}
	for name, r := range notCopies() {
		list[name] = func(d *dev.Device, block int) { slot.Write(d, block, r) }
	}
	return list
}

// P5.1: if none is good, the second block decides: empty it means that no head was put.
func TestOpenNoneGood(t *testing.T) {
	for name, spoil := range spoilers() {
		d := dev.New(2)
		spoil(d, 0)
		opens(t, name+", empty", d, fresh)
		d = dev.New(2)
		spoil(d, 1)
		refuses(t, "empty, "+name, d, api.ErrBad)
		for other, also := range spoilers() {
			c := d.Clone()
			also(c, 0)
			refuses(t, other+", "+name, c, api.ErrBad)
		}
	}
}

// P5.1: one good copy is enough, whatever the other block is, and whatever its Index.
func TestOpenOneGood(t *testing.T) {
	h := Head{Term: 3, Vote: 1, First: 2, Base: 3}
	opens(t, "the second one empty", device(t, copyOf(1, h), slot.Rec{}), h)
	opens(t, "the first one empty", device(t, slot.Rec{}, copyOf(1, h)), h)
	for name, spoil := range spoilers() {
		for block := range Blocks {
			d := device(t, copyOf(1, h), copyOf(1, h))
			spoil(d, block)
			opens(t, name, d, h)
		}
	}
}

// P5.1: First and Base may be any number, also a First of 0.
func TestOpenAnySize(t *testing.T) {
	for _, h := range []Head{
		{}, {Term: 4, Vote: 7}, {First: pith.Most}, {First: 2, Base: pith.Most}, {Term: pith.Most, First: 1},
	} {
		opens(t, "any size", device(t, copyOf(2, h), copyOf(1, fresh)), h)
		opens(t, "any size", device(t, slot.Rec{}, copyOf(2, h)), h)
	}
}

// P5.1, P5.2: a nil Store has the zero Head, and returns ErrArg.
func TestNil(t *testing.T) {
	var s *Store
	if s.Head() != (Head{}) || s.Put(fresh) != api.ErrArg || s.Put(Head{}) != api.ErrArg || s.Scrub() != api.ErrArg {
		t.Error("nil")
	}
}

// P5.2: Put returns ErrArg for what is out of its bounds, and has no effect then.
func TestPutRefuses(t *testing.T) {
	old := Head{Term: 3, Vote: 1, First: 4, Base: 2}
	d := dev.New(2)
	s := opens(t, "new", d, fresh)
	puts(t, s, old)
	d.Fall(0)
	for _, h := range []Head{
		{}, {Term: 1}, {Term: -1, First: 1}, {Vote: -1, First: 1}, {First: -1}, {First: 1, Base: -1},
		{Vote: 8, First: 1}, {Vote: math.MaxInt, First: 1}, {Term: pith.Most + 1, First: 1},
		{First: pith.Most + 1}, {First: 1, Base: pith.Most + 1},
		{Term: math.MinInt, Vote: math.MinInt, First: math.MinInt, Base: math.MinInt},
	} {
		if e := s.Put(h); e != api.ErrArg || s.Head() != old || d.Down() {
			t.Errorf("Put(%v) = %d, the head is %v, down %t", h, e, s.Head(), d.Down())
		}
	}
	contains(t, "refused", d, copyOf(1, old), copyOf(1, old))
	d = d.Crash()
	s = opens(t, "refused", d, old)
	puts(t, s, fresh)
	contains(t, "put", d, copyOf(2, fresh), copyOf(2, fresh))
}

// P5.2: Put writes the first copy, Flushes, writes the second one, and Flushes; its error ends it.
func TestPutInTurn(t *testing.T) {
	old, now := Head{Term: 3, Vote: 1, First: 4, Base: 2}, Head{Term: 5, First: 9}
	one, two := copyOf(1, old), copyOf(2, now)
	for turns, x := range []struct{ lost, kept [Blocks]slot.Rec }{
		{[Blocks]slot.Rec{one, one}, [Blocks]slot.Rec{one, one}},
		{[Blocks]slot.Rec{one, one}, [Blocks]slot.Rec{two, one}},
		{[Blocks]slot.Rec{two, one}, [Blocks]slot.Rec{two, one}},
		{[Blocks]slot.Rec{two, one}, [Blocks]slot.Rec{two, two}},
	} {
		d := dev.New(2)
		s := opens(t, "new", d, fresh)
		puts(t, s, old)
		d.Fall(turns)
		if e := s.Put(now); e != api.ErrDown || s.Head() != old {
			t.Errorf("Fall(%d): %d, the head is %v", turns, e, s.Head())
		}
		if s.Put(now) != api.ErrDown || s.Scrub() != api.ErrDown || s.Head() != old {
			t.Errorf("Fall(%d): without power", turns)
		}
		contains(t, "Lost", d.Crash(), x.lost[:]...)
		contains(t, "Kept", d.Crash(dev.Kept), x.kept[:]...)
		contains(t, "one write at most", d.Crash(dev.Lost, dev.Kept, dev.Kept), x.lost[:]...)
	}
}

// P5.2: four operations are enough.
func TestPutOperations(t *testing.T) {
	d := dev.New(2)
	s := opens(t, "new", d, fresh)
	d.Fall(4)
	puts(t, s, Head{Term: 1, First: 2})
	if d.Down() || d.Flush() != api.ErrDown {
		t.Error("not four")
	}
}

// P5.2: the Index goes on from that of the head that was opened, and ends where layer 1 does.
func TestPutIndex(t *testing.T) {
	h := Head{Term: 5, First: 6}
	for _, index := range []int{1, 41, pith.Most - 1} {
		for _, d := range []*dev.Device{
			device(t, copyOf(index, fresh), slot.Rec{}),
			device(t, slot.Rec{}, copyOf(index, fresh)),
			device(t, copyOf(index-1, h), copyOf(index, fresh)),
		} {
			puts(t, opens(t, "a copy", d, fresh), h)
			contains(t, "put", d, copyOf(index+1, h), copyOf(index+1, h))
		}
	}
	d := device(t, copyOf(pith.Most, fresh), copyOf(pith.Most, fresh))
	s := opens(t, "the last one", d, fresh)
	if e := s.Put(h); e != api.ErrArg || s.Head() != fresh {
		t.Errorf("behind the last one: %d, %v", e, s.Head())
	}
	contains(t, "behind the last one", d, copyOf(pith.Most, fresh), copyOf(pith.Most, fresh))
}

// P5.2: Scrub returns the device's error of reading, also if no head was put.
func TestScrubFails(t *testing.T) {
	d := dev.New(2)
	s := opens(t, "new", d, fresh)
	d.Fall(0)
	d.Flush()
	if e := s.Scrub(); e != api.ErrDown || s.Head() != fresh {
		t.Error(e, s.Head())
	}
}

// P5.2: Scrub writes nothing if both copies are those of the last head.
func TestScrubIntact(t *testing.T) {
	d := dev.New(2)
	s := opens(t, "new", d, fresh)
	for _, h := range heads() {
		puts(t, s, h)
		for _, x := range []*Store{s, opens(t, "put", d, h)} {
			d.Fall(0)
			scrubs(t, "intact", x)
			d.Fall(99)
		}
	}
	n := len(heads())
	contains(t, "intact", d, copyOf(n, heads()[n-1]), copyOf(n, heads()[n-1]))
}

// P5.2: Scrub writes nothing if no head was ever put, whatever the blocks are.
func TestScrubNew(t *testing.T) {
	d := dev.New(2)
	s := opens(t, "new", d, fresh)
	d.Fall(0)
	scrubs(t, "new", s)
	for name, spoil := range spoilers() {
		d := dev.New(2)
		s := opens(t, name, d, fresh)
		spoil(d, 0)
		again := opens(t, name, d, fresh)
		d.Fall(0)
		scrubs(t, name, s)
		scrubs(t, name+", opened again", again)
		d.Fall(4)
		puts(t, again, Head{Term: 2, First: 3})
		contains(t, name, d, copyOf(1, Head{Term: 2, First: 3}), copyOf(1, Head{Term: 2, First: 3}))
	}
}

// P5.2: Scrub puts the head again if a copy is not good, in four operations.
func TestScrubDamaged(t *testing.T) {
	h := Head{Term: 3, Vote: 1, First: 4, Base: 2}
	for name, spoil := range spoilers() {
		for block := range Blocks {
			d := dev.New(2)
			s := opens(t, "new", d, fresh)
			puts(t, s, h)
			spoil(d, block)
			d.Flush()
			s = opens(t, name, d, h)
			d.Fall(4)
			scrubs(t, name, s)
			contains(t, name, d, copyOf(2, h), copyOf(2, h))
			contains(t, name+", durable", d.Crash(), copyOf(2, h), copyOf(2, h))
			scrubs(t, name+", again", s)
			if d.Down() || d.Flush() != api.ErrDown {
				t.Errorf("%s: not four operations", name)
			}
		}
	}
}

// P5.2: Scrub knows the last head, even if both copies are damaged.
func TestScrubBothDamaged(t *testing.T) {
	h := Head{Term: 3, Vote: 1, First: 4, Base: 2}
	for name, spoil := range spoilers() {
		d := dev.New(2)
		s := opens(t, "new", d, fresh)
		puts(t, s, h)
		spoil(d, 0)
		spoil(d, 1)
		refuses(t, name, d, api.ErrBad)
		scrubs(t, name, s)
		contains(t, name, d, copyOf(2, h), copyOf(2, h))
		opens(t, name, d, h)
	}
}

// P5.2: Scrub puts the head again if a copy is empty, or is that of another head, or of an earlier Put of the same head.
func TestScrubBehind(t *testing.T) {
	h, old := Head{Term: 3, Vote: 1, First: 4, Base: 2}, Head{Term: 2, First: 4, Base: 2}
	last := copyOf(5, h)
	for _, other := range []slot.Rec{{}, copyOf(4, old), copyOf(4, h), copyOf(1, fresh)} {
		for _, d := range []*dev.Device{device(t, last, other), device(t, other, last)} {
			s := opens(t, "behind", d, h)
			scrubs(t, "behind", s)
			contains(t, "behind", d, copyOf(6, h), copyOf(6, h))
		}
	}
	d := device(t, last, copyOf(5, old))
	scrubs(t, "equal Indexes", opens(t, "equal Indexes", d, h))
	contains(t, "equal Indexes", d, copyOf(6, h), copyOf(6, h))
}

// P5.2: Scrub returns the error of the Put, and the head is still there.
func TestScrubPutFails(t *testing.T) {
	h := Head{Term: 3, Vote: 1, First: 4, Base: 2}
	for turns := range 4 {
		for block := range Blocks {
			d := device(t, copyOf(5, h), copyOf(5, h))
			s := opens(t, "good", d, h)
			d.Lose(block)
			d.Fall(turns)
			if e := s.Scrub(); e != api.ErrDown || s.Head() != h {
				t.Errorf("Fall(%d): %d, %v", turns, e, s.Head())
			}
		}
	}
	d := device(t, copyOf(5, Head{Term: 1}), slot.Rec{})
	if e := opens(t, "a First of 0", d, Head{Term: 1}).Scrub(); e != api.ErrArg {
		t.Error("a head that can't be put", e)
	}
	contains(t, "a head that can't be put", d, copyOf(5, Head{Term: 1}), slot.Rec{})
}

// P5.3: while only one copy is intact, a Scrub during which the power fails does not lose the head.
func TestScrubKeepsTheIntactCopy(t *testing.T) {
	h := Head{Term: 3, Vote: 1, First: 4, Base: 2}
	for name, spoil := range spoilers() {
		for at := range 5 * Blocks {
			d := device(t, copyOf(5, h), copyOf(5, h))
			spoil(d, at%Blocks)
			d.Flush()
			s := opens(t, name, d, h)
			d.Fall(at / Blocks)
			s.Scrub()
			for _, fate := range []dev.Fate{dev.Lost, dev.Kept, dev.Torn} {
				opens(t, name, d.Crash(fate), h)
			}
		}
	}
}

// walk tries everything that can happen to a device that was just opened again after a failure of the power.
type walk struct {
	t     *testing.T
	tried int
}

// from checks what Open returns, and goes on from there with a Scrub that fails, or with one that
// returns OK and a Put that fails. sure is the last head whose Put returned OK, maybe the one that was being put.
func (w *walk) from(d *dev.Device, sure, maybe Head, depth int) {
	w.tried++
	s, e := Open(d)
	if e != api.OK || s.Head() != sure && s.Head() != maybe {
		w.t.Fatalf("depth %d: error %d, %v, want %v or %v", depth, e, s.Head(), sure, maybe)
	}
	if depth == 0 {
		return
	}
	h := s.Head()
	w.fail(d, depth, func(c *Store) api.Errno { return c.Scrub() }, sure, maybe)
	if e := s.Scrub(); e != api.OK || s.Head() != h {
		w.t.Fatalf("depth %d: Scrub %d, %v, want %v", depth, e, s.Head(), h)
	}
	w.damage(d, h)
	for _, next := range []Head{{Term: 10 + depth, First: depth}, h} {
		w.fail(d, depth, func(c *Store) api.Errno {
			if e := c.Scrub(); e != api.OK {
				w.t.Fatal("Scrub", e)
			}
			return c.Put(next)
		}, h, next)
	}
}

// fail lets the power fail at each operation of what is done, with each fate, and goes on from there.
func (w *walk) fail(d *dev.Device, depth int, do func(s *Store) api.Errno, sure, maybe Head) {
	for turns := range 5 {
		for _, fate := range []dev.Fate{dev.Lost, dev.Kept, dev.Torn} {
			c := d.Clone()
			s, e := Open(c)
			if e != api.OK {
				w.t.Fatal("opened again", e)
			}
			c.Fall(turns)
			if do(s) == api.OK {
				w.from(c.Crash(fate), s.Head(), s.Head(), depth-1)
			} else {
				w.from(c.Crash(fate), sure, maybe, depth-1)
			}
		}
	}
}

// damage checks that one copy is enough behind a Scrub that returned OK, and that none is not taken for a new device.
func (w *walk) damage(d *dev.Device, h Head) {
	_, state, _ := slot.Read(d, 1)
	if state == slot.Empty {
		return // no head was ever put, and there are no copies
	}
	for block := range Blocks {
		c := d.Clone()
		c.Lose(block)
		opens(w.t, "one is lost", c, h)
		c.Flip(1-block, 9, 1)
		refuses(w.t, "one is lost, one is flipped", c, api.ErrBad)
		c = d.Clone()
		c.Flip(block, 40, 0x80)
		opens(w.t, "one is flipped", c, h)
	}
}

// P5.3: whenever the power fails, time and again, Open returns the last head, or the one that was being put.
func TestPower(t *testing.T) {
	old := Head{Term: 3, Vote: 1, First: 4, Base: 2}
	d := dev.New(2)
	w := &walk{t: t}
	w.from(d, fresh, fresh, 3)
	puts(t, opens(t, "new", d, fresh), old)
	w.from(d, old, old, 3)
	if w.tried < 100000 {
		t.Error("too little was tried:", w.tried)
	}
}

// P5.3: one damaged copy is repaired by Scrub, again and again; two are the end.
func TestDamage(t *testing.T) {
	h := Head{Term: 3, Vote: 1, First: 4, Base: 2}
	d := dev.New(2)
	puts(t, opens(t, "new", d, fresh), h)
	for range 3 {
		for name, spoil := range spoilers() {
			for block := range Blocks {
				spoil(d, block)
				scrubs(t, name, opens(t, name, d, h))
			}
		}
	}
	for _, spoil := range spoilers() {
		for _, also := range spoilers() {
			c := d.Clone()
			spoil(c, 0)
			also(c, 1)
			refuses(t, "both", c, api.ErrBad)
		}
	}
}
