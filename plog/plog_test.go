package plog

import (
	"maps"
	"math"
	"slices"
	"strconv"
	"strings"
	"testing"

	"orchard/api"
	"orchard/dev"
	"orchard/pith"
	"orchard/slot"
)

// entry returns an entry whose data tell its index and its term.
func entry(i, term int) Entry {
	return Entry{Index: i, Term: term, Data: "d" + strconv.Itoa(i) + "." + strconv.Itoa(term)}
}

// row returns the entries with the indices from first to last, of one term.
func row(first, last, term int) []Entry {
	var list []Entry
	for i := first; i <= last; i++ {
		list = append(list, entry(i, term))
	}
	return list
}

// block and mark are the blocks of an entry by the letter of P6.1.
func block(x Entry) slot.Rec        { return slot.Rec{Kind: 2, Index: x.Index, Term: x.Term, Data: x.Data} }
func mark(index, term int) slot.Rec { return slot.Rec{Kind: 3, Index: index, Term: term} }

// put writes blocks of a device, and makes them durable; the zero Rec leaves one as it is.
func put(t *testing.T, d *dev.Device, list map[int]slot.Rec) {
	t.Helper()
	for b, r := range list {
		if r == (slot.Rec{}) {
			continue
		}
		if e := slot.Write(d, b, r); e != api.OK {
			t.Fatalf("block %d: %d", b, e)
		}
	}
	d.Flush()
}

// contains checks what all blocks of a device hold; those that are not in the list are empty.
func contains(t *testing.T, what string, d *dev.Device, list map[int]slot.Rec) {
	t.Helper()
	for b := range d.Size() {
		r, state, e := slot.Read(d, b)
		want, some := list[b]
		if r != want || e != api.OK || state == slot.Bad || (state == slot.Good) != some {
			t.Errorf("%s: block %d is %v, %d, %d, want %v", what, b, r, state, e, want)
		}
	}
}

// opens returns the log of a device, which must be opened without an error.
func opens(t *testing.T, what string, d *dev.Device, base, size, first int) *Log {
	t.Helper()
	l, e := Open(d, base, size, first)
	if l == nil || e != api.OK {
		t.Fatalf("%s: Open = %d", what, e)
	}
	if l.First() != first || l.Room() != size-(l.Last()-first+1) {
		t.Errorf("%s: First %d, Last %d, Room %d", what, l.First(), l.Last(), l.Room())
	}
	return l
}

// filled returns a log at block 0 of a new device, with entries of a term.
func filled(t *testing.T, size, count, term int) *Log {
	t.Helper()
	l := opens(t, "new", dev.New(2*size), 0, size, 1)
	ok(t, "filled", l.Append(row(1, count, term)...))
	return l
}

// ok checks that there was no error.
func ok(t *testing.T, what string, e api.Errno) {
	t.Helper()
	if e != api.OK {
		t.Fatalf("%s: %d", what, e)
	}
}

// refused checks that there was an error, and that the log, and the device, are as they were.
func refused(t *testing.T, what string, l *Log, do func(l *Log) api.Errno, want api.Errno) {
	t.Helper()
	c := cloned(l)
	if e := do(c); e != want {
		t.Errorf("%s: %d, want %d", what, e, want)
	}
	if memory(c) != memory(l) || look(c.device) != look(l.device) {
		t.Errorf("%s: was %s on %q, is %s on %q", what, memory(l), look(l.device), memory(c), look(c.device))
	}
}

// holds checks that the entries of a log are these, and that all of them are good.
func holds(t *testing.T, what string, l *Log, list ...Entry) {
	t.Helper()
	if l.Last() != l.First()+len(list)-1 {
		t.Fatalf("%s: from %d to %d, want %v", what, l.First(), l.Last(), list)
	}
	for _, x := range list {
		if got, state := l.Read(x.Index); got != x || state != Good || l.Term(x.Index) != x.Term {
			t.Errorf("%s: entry %d is %v, %d, its term is %d, want %v", what, x.Index, got, state, l.Term(x.Index), x)
		}
	}
}

// reads checks how one entry reads.
func reads(t *testing.T, what string, l *Log, i int, want Entry, state State) {
	t.Helper()
	if x, s := l.Read(i); x != want || s != state {
		t.Errorf("%s: entry %d is %v, %d, want %v, %d", what, i, x, s, want, state)
	}
}

// cloned returns an independent copy of a log, on a copy of its device.
func cloned(l *Log) *Log {
	c := *l
	c.device = l.device.Clone()
	c.terms, c.damaged = maps.Clone(l.terms), maps.Clone(l.damaged)
	return &c
}

// memory is what can be observed of a log without its device.
func memory(l *Log) string {
	b := []byte{}
	for _, n := range []int{l.First(), l.Last(), l.Room(), l.Hurt()} {
		b = append(strconv.AppendInt(b, int64(n), 10), ' ')
	}
	for i := l.First(); i <= l.Last(); i++ {
		_, damaged := l.damaged[i]
		b = append(strconv.AppendInt(b, int64(l.Term(i)), 10), ' ')
		b = append(strconv.AppendBool(b, damaged), ' ')
	}
	return string(b)
}

// look is what all blocks of a device hold, also if it has no power.
func look(d *dev.Device) string {
	kept := slices.Repeat([]dev.Fate{dev.Kept}, 2*d.Size())
	torn := slices.Repeat([]dev.Fate{dev.Torn}, 2*d.Size())
	return strings.Join(contents(d.Crash()), "|") + "|" +
		strings.Join(contents(d.Crash(kept...)), "|") + "|" +
		strings.Join(contents(d.Crash(torn...)), "|")
}

// contents are the bytes of the blocks of a device, those that are lost among them.
func contents(d *dev.Device) []string {
	list := make([]string, d.Size())
	for b := range list {
		s, e := d.Read(b)
		list[b] = s
		if e != api.OK {
			list[b] = "lost"
		}
	}
	return list
}

// spoilers make a block bad, each in a way of its own.
func spoilers() map[string]func(d *dev.Device, block int) {
	return map[string]func(d *dev.Device, block int){
		"lost": func(d *dev.Device, block int) { d.Lose(block) },
		"flipped": func(d *dev.Device, block int) {
			slot.Write(d, block, slot.Rec{Kind: 2, Index: 3, Term: 1, Data: "x"})
			d.Flush()
			d.Flip(block, 9, 4)
		},
		"something else": func(d *dev.Device, block int) {
			d.Write(block, "something else, of 36 bytes in all....")
			d.Flush()
		},
		"half": func(d *dev.Device, block int) {
			s, _ := slot.Put(slot.Rec{Kind: 3, Index: 3, Term: 2})
			d.Write(block, s[:len(s)/2])
			d.Flush()
		},
	}
}

// trace returns the operations of what is done to a log, in order: a number is that of a block which is
// written, F a Flush. (A Flush with nothing to flush shows as F as well.)
func trace(l *Log, do func(l *Log)) string {
	return traceOf(l.device, func(d *dev.Device) {
		c := cloned(l)
		c.device = d
		do(c)
	})
}

// traceOf returns the operations of what is done to a device.
func traceOf(d *dev.Device, do func(d *dev.Device)) string {
	var list []string
	durable, torn := contents(d.Crash()), contents(d.Crash())
	for n := 0; ; n++ {
		c := d.Clone()
		c.Fall(n)
		do(c)
		nowDurable := contents(c.Crash())
		nowTorn := contents(c.Crash(slices.Repeat([]dev.Fate{dev.Torn}, 2*d.Size())...))
		if n > 0 {
			list = append(list, operation(durable, torn, nowDurable, nowTorn))
		}
		if !c.Down() {
			return strings.Join(list, " ")
		}
		durable, torn = nowDurable, nowTorn
	}
}

// operation returns the one that was between two looks at a device. A write ends at once that a block is lost;
// behind a Flush nothing is left that could be torn.
func operation(durable, torn, nowDurable, nowTorn []string) string {
	for b := range durable {
		if durable[b] == "lost" && nowDurable[b] != "lost" {
			return strconv.Itoa(b)
		}
	}
	if !slices.Equal(durable, nowDurable) || slices.Equal(nowDurable, nowTorn) {
		return "F"
	}
	for b := range torn {
		if torn[b] != nowTorn[b] {
			return strconv.Itoa(b)
		}
	}
	return "F"
}

// operates checks which operations something is.
func operates(t *testing.T, what string, l *Log, do func(l *Log), want string) {
	t.Helper()
	if got := trace(l, do); got != want {
		t.Errorf("%s: the operations are %q, want %q", what, got, want)
	}
}

// P6.1: entry i is in block base + i modulo size, of Kind 2; its mark size blocks after that, of Kind 3, without Data.
func TestBlocks(t *testing.T) {
	if MaxData != 488 || Gone != 0 || Good != 1 || Hurt != 2 || Unknown != 3 {
		t.Error("constants")
	}
	d := dev.New(20)
	l := opens(t, "new", d, 3, 5, 7)
	ok(t, "Append", l.Append(row(7, 9, 2)...))
	ok(t, "Append", l.Append(row(10, 11, 4)...))
	want := map[int]slot.Rec{
		5: {Kind: 2, Index: 7, Term: 2, Data: "d7.2"}, 10: {Kind: 3, Index: 7, Term: 2},
		6: {Kind: 2, Index: 8, Term: 2, Data: "d8.2"}, 11: {Kind: 3, Index: 8, Term: 2},
		7: {Kind: 2, Index: 9, Term: 2, Data: "d9.2"}, 12: {Kind: 3, Index: 9, Term: 2},
		3: {Kind: 2, Index: 10, Term: 4, Data: "d10.4"}, 8: {Kind: 3, Index: 10, Term: 4},
		4: {Kind: 2, Index: 11, Term: 4, Data: "d11.4"}, 9: {Kind: 3, Index: 11, Term: 4},
	}
	contains(t, "written", d, want)
	contains(t, "durable", d.Crash(), want)
	one := dev.New(2)
	l = opens(t, "one place", one, 0, 1, 1)
	ok(t, "Append", l.Append(entry(1, 1)))
	contains(t, "one place", one, map[int]slot.Rec{0: block(entry(1, 1)), 1: mark(1, 1)})
}

// othersThan returns what a block may hold instead of what it should; the zero Rec leaves it empty.
func othersThan(r slot.Rec) map[string]slot.Rec {
	list := map[string]slot.Rec{"empty": {}}
	for name, change := range map[string]func(r *slot.Rec){
		"of Kind 0":              func(r *slot.Rec) { r.Kind = 0 },
		"of Kind 1":              func(r *slot.Rec) { r.Kind = 1 },
		"of the other's Kind":    func(r *slot.Rec) { r.Kind = 5 - r.Kind },
		"of a former Index":      func(r *slot.Rec) { r.Index -= 4 },
		"of a later Index":       func(r *slot.Rec) { r.Index += 4 },
		"of the Index before it": func(r *slot.Rec) { r.Index-- },
		"of Index 0":             func(r *slot.Rec) { r.Index = 0 },
	} {
		other := r
		change(&other)
		list[name] = other
	}
	return list
}

// P6.1: an entry reads as Good if its block contains it, whatever its mark is.
func TestReadsAsGood(t *testing.T) {
	x := Entry{Index: 6, Term: 3, Data: "abc"}
	marks := othersThan(mark(6, 3))
	marks["its mark"] = mark(6, 3)
	marks["of another term"] = mark(6, 2)
	marks["with data"] = slot.Rec{Kind: 3, Index: 6, Term: 3, Data: "x"}
	for name, m := range marks {
		d := dev.New(8)
		put(t, d, map[int]slot.Rec{2: block(x), 6: m})
		holds(t, name, opens(t, name, d, 0, 4, 6), x)
	}
	for name, spoil := range spoilers() {
		d := dev.New(8)
		put(t, d, map[int]slot.Rec{2: block(x), 6: mark(6, 3)})
		spoil(d, 6)
		holds(t, name, opens(t, name, d, 0, 4, 6), x)
	}
}

// P6.1: an entry whose block is not bad and does not contain it reads as Gone, whatever its mark is.
func TestReadsAsGone(t *testing.T) {
	marks := othersThan(mark(6, 3))
	marks["its mark"] = mark(6, 3)
	for name, r := range othersThan(slot.Rec{Kind: 2, Index: 6, Term: 3, Data: "abc"}) {
		for other, m := range marks {
			d := dev.New(8)
			put(t, d, map[int]slot.Rec{2: r, 6: m})
			holds(t, name+", mark "+other, opens(t, name, d, 0, 4, 6))
		}
		for other, spoil := range spoilers() {
			d := dev.New(8)
			put(t, d, map[int]slot.Rec{2: r})
			spoil(d, 6)
			holds(t, name+", mark "+other, opens(t, name, d, 0, 4, 6))
		}
	}
}

// P6.1: an entry whose block is bad reads as Hurt, as Unknown or as Gone: its mark's block decides.
func TestReadsAsDamaged(t *testing.T) {
	marks := othersThan(mark(6, 3))
	marks["with data"] = slot.Rec{Kind: 3, Index: 6, Term: 3, Data: "x"}
	for name, spoil := range spoilers() {
		for other, m := range marks {
			d := dev.New(8)
			put(t, d, map[int]slot.Rec{6: m})
			spoil(d, 2)
			holds(t, name+", mark "+other, opens(t, name, d, 0, 4, 6))
		}
		for _, term := range []int{1, 3, api.MaxTime} {
			d := dev.New(8)
			put(t, d, map[int]slot.Rec{6: mark(6, term)})
			spoil(d, 2)
			l := opens(t, name, d, 0, 4, 6)
			if l.Last() != 6 || l.Term(6) != term || l.Hurt() != 6 {
				t.Errorf("%s: Last %d, Term %d, Hurt %d", name, l.Last(), l.Term(6), l.Hurt())
			}
			reads(t, name, l, 6, Entry{Index: 6, Term: term}, Hurt)
		}
		for other, also := range spoilers() {
			d := dev.New(8)
			spoil(d, 2)
			also(d, 6)
			l := opens(t, name, d, 0, 4, 6)
			if l.Last() != 6 || l.Term(6) != 0 || l.Hurt() != 6 {
				t.Errorf("%s, %s: Last %d, Term %d, Hurt %d", name, other, l.Last(), l.Term(6), l.Hurt())
			}
			reads(t, name+", "+other, l, 6, Entry{Index: 6}, Unknown)
		}
	}
}

// P6.2: Open returns ErrArg for arguments out of their bounds, also for the greatest ints.
func TestOpenRefuses(t *testing.T) {
	for _, x := range []struct{ blocks, base, size, first int }{
		{8, -1, 2, 1}, {8, math.MinInt, 2, 1}, {8, 0, 0, 1}, {8, 0, -1, 1}, {8, 0, math.MinInt, 1},
		{8, 0, 4, 0}, {8, 0, 4, -1}, {8, 0, 4, math.MinInt}, {8, 1, 4, 1}, {8, 0, 5, 1}, {7, 0, 4, 1},
		{8, 7, 1, 1}, {8, 8, 1, 1}, {8, 9, 1, 1}, {8, math.MaxInt, 1, 1}, {8, 0, math.MaxInt, 1},
		{8, math.MaxInt, math.MaxInt, math.MaxInt}, {8, 2, math.MaxInt / 2, 1}, {8, 2, 1 << 62, 1},
		{8, 0, 1 << 62, 1}, {8, -8, 8, 1}, {0, 0, 1, 1}, {1, 0, 1, 1}, {8, math.MinInt, math.MinInt, 1},
	} {
		d := dev.New(x.blocks)
		for b := range x.blocks {
			d.Lose(b)
		}
		d.Fall(0)
		if l, e := Open(d, x.base, x.size, x.first); l != nil || e != api.ErrArg || d.Down() {
			t.Errorf("%v: %v, %d", x, l, e)
		}
	}
	for _, size := range []int{-1, 0, 1, 8} {
		if l, e := Open(nil, 0, size, 1); l != nil || e != api.ErrArg {
			t.Error("a nil device", l, e)
		}
	}
	d := dev.New(8)
	d.Fall(0)
	d.Flush()
	if l, e := Open(d, 0, 5, 1); l != nil || e != api.ErrArg {
		t.Error("without power, too small", l, e)
	}
}

// P6.2: a log takes any base, size and first within the bounds; on empty blocks it is empty, and nothing is written.
func TestOpenNew(t *testing.T) {
	for _, x := range []struct{ blocks, base, size, first int }{
		{2, 0, 1, 1}, {8, 0, 4, 1}, {8, 6, 1, 5}, {8, 1, 3, 1}, {9, 1, 4, 1}, {api.MaxBlocks, 0, api.MaxBlocks / 2, 1},
		{8, 0, 4, pith.Most}, {8, 0, 4, math.MaxInt}, {8, 0, 4, math.MaxInt - 3},
	} {
		d := dev.New(x.blocks)
		d.Fall(0)
		l := opens(t, "new", d, x.base, x.size, x.first)
		if l.Last() != x.first-1 || l.Room() != x.size || l.Hurt() != 0 || d.Down() {
			t.Errorf("%v: Last %d, Room %d, Hurt %d", x, l.Last(), l.Room(), l.Hurt())
		}
	}
}

// P6.2: Open returns the device's error of reading, without a log.
func TestOpenWithoutPower(t *testing.T) {
	d := filled(t, 4, 3, 1).device
	d.Fall(0)
	d.Flush()
	if l, e := Open(d, 0, 4, 1); l != nil || e != api.ErrDown {
		t.Error(l, e)
	}
}

// P6.2: the log is the entries from first up to the one before the first that is Gone, at most size.
func TestOpenFinds(t *testing.T) {
	for count := range 5 {
		l := filled(t, 4, count, 2)
		for first := 1; first <= count+1; first++ {
			holds(t, "some", opens(t, "some", l.device.Clone(), 0, 4, first), row(first, count, 2)...)
		}
	}
	d := dev.New(8)
	put(t, d, map[int]slot.Rec{1: block(entry(1, 1)), 3: block(entry(3, 1)), 7: mark(3, 1), 6: mark(2, 1)})
	holds(t, "one that is Gone", opens(t, "one that is Gone", d, 0, 4, 1), entry(1, 1))
	full := filled(t, 4, 4, 2)
	holds(t, "full, from another first", opens(t, "full", full.device.Clone(), 0, 4, 2), row(2, 4, 2)...)
	holds(t, "full, from the next", opens(t, "full", full.device.Clone(), 0, 4, 5))
	holds(t, "full, from far on", opens(t, "full", full.device.Clone(), 0, 4, 50))
	all := dev.New(8)
	for b := range 8 {
		all.Lose(b)
	}
	l := opens(t, "all are lost", all, 0, 4, 9)
	if l.Last() != 12 || l.Room() != 0 || l.Hurt() != 9 {
		t.Error("all are lost", l.Last(), l.Room(), l.Hurt())
	}
}

// P6.2: damaged entries are no end, wherever they are.
func TestOpenFindsDamaged(t *testing.T) {
	for i := 1; i <= 3; i++ {
		for name, spoil := range spoilers() {
			d := filled(t, 4, 3, 2).device
			spoil(d, i)
			l := opens(t, name, d, 0, 4, 1)
			if l.Last() != 3 || l.Term(i) != 2 || l.Hurt() != i || l.Room() != 1 {
				t.Errorf("%s: Last %d, Term %d, Hurt %d", name, l.Last(), l.Term(i), l.Hurt())
			}
			spoil(d, i+4)
			l = opens(t, name, d, 0, 4, 1)
			if l.Last() != 3 || l.Term(i) != 0 || l.Hurt() != i || l.Room() != 1 {
				t.Errorf("%s, both: Last %d, Term %d, Hurt %d", name, l.Last(), l.Term(i), l.Hurt())
			}
		}
	}
}

// opening returns the operations of Open.
func opening(d *dev.Device, base, size, first int) string {
	return traceOf(d, func(d *dev.Device) { Open(d, base, size, first) })
}

// P6.2: Open writes the marks that the marks' blocks of good entries do not contain, and one Flush.
func TestOpenMarks(t *testing.T) {
	d := filled(t, 5, 4, 2).device
	good := map[int]slot.Rec{}
	for _, x := range row(1, 4, 2) {
		good[x.Index], good[x.Index+5] = block(x), mark(x.Index, 2)
	}
	if got := opening(d, 0, 5, 1); got != "" {
		t.Error("all marks are there:", got)
	}
	marks := othersThan(mark(2, 2))
	marks["of another term"] = mark(2, 1)
	marks["with data"] = slot.Rec{Kind: 3, Index: 2, Term: 2, Data: "x"}
	delete(marks, "of a former Index")
	for name, m := range marks {
		c := d.Clone()
		c.Write(7, "")
		c.Write(9, "")
		put(t, c, map[int]slot.Rec{7: m})
		if got := opening(c, 0, 5, 1); got != "7 9 F" {
			t.Errorf("%s: %q", name, got)
		}
		holds(t, name, opens(t, name, c, 0, 5, 1), row(1, 4, 2)...)
		contains(t, name, c, good)
		contains(t, name+", durable", c.Crash(), good)
	}
	for name, spoil := range spoilers() {
		c := d.Clone()
		spoil(c, 6)
		if got := opening(c, 0, 5, 1); got != "6 F" {
			t.Errorf("%s: %q", name, got)
		}
		opens(t, name, c, 0, 5, 1)
		contains(t, name, c.Crash(), good)
	}
}

// P6.2: Open writes no mark of an entry that is damaged.
func TestOpenLeavesDamaged(t *testing.T) {
	d := filled(t, 5, 4, 2).device
	d.Lose(1)
	d.Lose(3)
	d.Lose(8)
	if got := opening(d, 0, 5, 1); got != "" {
		t.Error(got)
	}
	l := opens(t, "damaged", d, 0, 5, 1)
	reads(t, "damaged", l, 1, Entry{Index: 1, Term: 2}, Hurt)
	reads(t, "damaged", l, 3, Entry{Index: 3}, Unknown)
}

// P6.2: the places after the last entry are cleaned: what is bad, or of an Index not below that of the place, is made empty.
func TestOpenCleans(t *testing.T) {
	// Place 3 has the blocks 3 and 8; it is that of the entry 8.
	for name, x := range map[string]struct {
		rec   slot.Rec
		clean bool
	}{
		"a former entry":           {slot.Rec{Kind: 2, Index: 3, Term: 1, Data: "x"}, false},
		"a former mark":            {slot.Rec{Kind: 3, Index: 3, Term: 1}, false},
		"of the Index before it":   {slot.Rec{Kind: 3, Index: 7, Term: 9}, false},
		"of Index 0":               {slot.Rec{}, false},
		"of Index 0, Kind 1":       {slot.Rec{Kind: 1}, false},
		"its mark":                 {slot.Rec{Kind: 3, Index: 8, Term: 1}, true},
		"its mark, with data":      {slot.Rec{Kind: 3, Index: 8, Term: 1, Data: "x"}, true},
		"its Index, Kind 0":        {slot.Rec{Kind: 0, Index: 8}, true},
		"its Index, Kind 1":        {slot.Rec{Kind: 1, Index: 8}, true},
		"the Index after it":       {slot.Rec{Kind: 3, Index: 9, Term: 1}, true},
		"of the next round":        {slot.Rec{Kind: 2, Index: 13, Term: 1, Data: "y"}, true},
		"of the greatest Index":    {slot.Rec{Kind: 4, Index: pith.Most, Term: 1}, true},
		"of the round after these": {slot.Rec{Kind: 3, Index: 18, Term: 1}, true},
	} {
		for _, b := range []int{3, 8} {
			d := dev.New(10)
			put(t, d, map[int]slot.Rec{1: block(entry(6, 2)), 6: mark(6, 2)})
			slot.Write(d, b, x.rec)
			d.Flush()
			want := map[int]slot.Rec{1: block(entry(6, 2)), 6: mark(6, 2), b: x.rec}
			operations := ""
			if x.clean {
				operations = strconv.Itoa(b) + " F"
				delete(want, b)
			}
			if x.rec.Kind == 2 && x.rec.Index == 8 {
				t.Fatal("that is the entry")
			}
			if got := opening(d, 0, 5, 6); got != operations {
				t.Errorf("%s, block %d: %q", name, b, got)
			}
			l := opens(t, name, d, 0, 5, 6)
			holds(t, name, l, entry(6, 2))
			contains(t, name, d, want)
			contains(t, name+", durable", d.Crash(), want)
		}
	}
}

// P6.2: bad blocks after the last entry are made empty, but not those of the Index that no place is for.
func TestOpenCleansBad(t *testing.T) {
	for name, spoil := range spoilers() {
		for b := range 8 {
			d := dev.New(9)
			put(t, d, map[int]slot.Rec{1: block(entry(5, 2)), 5: mark(5, 2), 8: block(entry(8, 2))})
			want := map[int]slot.Rec{1: block(entry(5, 2)), 5: mark(5, 2), 8: block(entry(8, 2))}
			if b == 1 || b == 5 {
				continue
			}
			spoil(d, b)
			if got := opening(d, 0, 4, 5); got != strconv.Itoa(b)+" F" {
				t.Errorf("%s, block %d: %q", name, b, got)
			}
			holds(t, name, opens(t, name, d, 0, 4, 5), entry(5, 2))
			contains(t, name, d.Crash(), want)
		}
	}
}

// P6.2: first the marks are made empty, durably, and then the entries.
func TestOpenCleansInTurn(t *testing.T) {
	d := dev.New(15)
	blocks := map[int]slot.Rec{1: block(entry(1, 2)), 6: mark(1, 2)}
	put(t, d, blocks)
	for _, x := range row(3, 5, 2) {
		put(t, d, map[int]slot.Rec{x.Index % 5: block(x), x.Index%5 + 5: mark(x.Index, x.Term)})
	}
	d.Lose(2)
	if got := opening(d, 0, 5, 1); got != "8 9 5 F 2 3 4 0 F" {
		t.Errorf("all: %q", got)
	}
	c := d.Clone()
	c.Write(6, "")
	c.Flush()
	if got := opening(c, 0, 5, 1); got != "6 F 8 9 5 F 2 3 4 0 F" {
		t.Errorf("all, and a mark is missing: %q", got)
	}
	contains(t, "cleaned", opens(t, "all", c, 0, 5, 1).device.Crash(), blocks)
	for _, b := range []int{8, 9, 5} {
		d.Write(b, "")
	}
	d.Flush()
	if got := opening(d, 0, 5, 1); got != "2 3 4 0 F" {
		t.Errorf("without marks: %q", got)
	}
	for _, b := range []int{1, 6} {
		d.Lose(b)
	}
	l := opens(t, "the first one Unknown", d, 0, 5, 1)
	reads(t, "the first one Unknown", l, 1, Entry{Index: 1}, Unknown)
}

// P6.2: Open returns the device's error of writing together with the log.
func TestOpenFails(t *testing.T) {
	d := dev.New(10)
	put(t, d, map[int]slot.Rec{1: block(entry(1, 2)), 3: block(entry(3, 2)), 8: mark(3, 2)})
	d.Lose(2)
	want := "6 F 8 F 2 3 F"
	if got := opening(d, 0, 5, 1); got != want {
		t.Fatal(got)
	}
	for n := range strings.Fields(want) {
		c := d.Clone()
		c.Fall(n)
		l, e := Open(c, 0, 5, 1)
		if e != api.ErrDown || l == nil {
			t.Fatalf("Fall(%d): %v, %d", n, l, e)
		}
		if l.First() != 1 || l.Last() != 1 || l.Room() != 4 || l.Term(1) != 2 || l.Hurt() != 0 {
			t.Errorf("Fall(%d): %s", n, memory(l))
		}
		reads(t, "without power", l, 1, Entry{}, Gone)
	}
	d.Fall(len(strings.Fields(want)))
	holds(t, "power for all", opens(t, "power for all", d, 0, 5, 1), entry(1, 2))
}

// P6.2: other blocks of the device are neither read nor written.
func TestOpenOnlyItsBlocks(t *testing.T) {
	d := dev.New(12)
	for b := range 12 {
		if b < 3 || b >= 9 {
			put(t, d, map[int]slot.Rec{b: {Kind: 2, Index: 1000 + b, Term: 1}})
		}
	}
	was := contents(d)
	l := opens(t, "in the middle", d, 3, 3, 1)
	ok(t, "Append", l.Append(row(1, 3, 1)...))
	ok(t, "Mend", l.Mend(entry(2, 1)))
	ok(t, "Cut", l.Cut(1))
	if !slices.Equal(contents(d), was) {
		t.Errorf("%q, was %q", contents(d), was)
	}
}

// P6.2: with a first near the greatest int nothing goes round, and nothing panics.
func TestOpenGreatest(t *testing.T) {
	for _, first := range []int{math.MaxInt, math.MaxInt - 1, math.MaxInt - 4, pith.Most, pith.Most + 1} {
		d := dev.New(12)
		for b := range 12 {
			d.Lose(b)
		}
		l, e := Open(d, 1, 5, first)
		if e != api.OK || l.First() != first || l.Last() < first || l.Last()-first >= 5 {
			t.Fatalf("first %d: %d, Last %d", first, e, l.Last())
		}
		l.Scrub()
		for i := first; i > 0 && i <= l.Last() && i-first < 5; i++ {
			reads(t, "a great Index", l, i, Entry{Index: i}, Unknown)
		}
		for _, i := range []int{first, l.Last(), l.Last() + 1, math.MinInt, math.MaxInt} {
			l.Term(i)
			l.Read(i)
			l.Append(Entry{Index: i, Term: 1})
			l.Mend(Entry{Index: i, Term: 1})
		}
		for _, i := range []int{math.MinInt, 0, math.MaxInt, l.Last() + 1, l.Last(), first} {
			l.Cut(i)
			l.Drop(i)
		}
		if l.Last() < l.First()-1 || l.Room() < 0 || l.Room() > 5 {
			t.Errorf("first %d: %s", first, memory(l))
		}
	}
	d := dev.New(4)
	l := opens(t, "the last Index", d, 0, 2, pith.Most)
	refused(t, "beyond the last Index", l, func(l *Log) api.Errno {
		return l.Append(entry(pith.Most, 1), entry(pith.Most+1, 1))
	}, api.ErrArg)
	operates(t, "beyond the last Index", l, func(l *Log) { l.Append(entry(pith.Most, 1), entry(pith.Most+1, 1)) }, "")
	ok(t, "the last Index", l.Append(entry(pith.Most, 1)))
	refused(t, "beyond the last Index", l, func(l *Log) api.Errno { return l.Append(entry(pith.Most+1, 1)) }, api.ErrArg)
	holds(t, "the last Index", opens(t, "the last Index", d, 0, 2, pith.Most), entry(pith.Most, 1))
}

// P6.3: First, Last, Room and Term tell what the log has.
func TestMeasures(t *testing.T) {
	l := opens(t, "new", dev.New(16), 0, 8, 5)
	if l.First() != 5 || l.Last() != 4 || l.Room() != 8 || l.Term(5) != 0 || l.Hurt() != 0 {
		t.Error("new:", memory(l))
	}
	ok(t, "Append", l.Append(entry(5, 1), entry(6, 1), entry(7, 4)))
	ok(t, "Append", l.Append(entry(8, api.MaxTime)))
	for _, x := range []*Log{l, opens(t, "opened", l.device, 0, 8, 5)} {
		if x.First() != 5 || x.Last() != 8 || x.Room() != 4 || x.Hurt() != 0 {
			t.Error(memory(x))
		}
		for i, term := range map[int]int{
			4: 0, 5: 1, 6: 1, 7: 4, 8: api.MaxTime, 9: 0, 13: 0, 0: 0, -3: 0, math.MinInt: 0, math.MaxInt: 0,
		} {
			if x.Term(i) != term {
				t.Errorf("Term(%d) = %d", i, x.Term(i))
			}
		}
	}
}

// P6.3: Read returns the zero Entry and Gone if there is no such entry, or without power.
func TestReadGone(t *testing.T) {
	l := filled(t, 4, 2, 1)
	l.Drop(2)
	// an entry on the device that is not one of the log
	put(t, l.device, map[int]slot.Rec{3: block(entry(3, 1))})
	for _, i := range []int{1, 3, 4, 5, 6, 0, -1, -2, math.MinInt, math.MaxInt} {
		reads(t, "not from First to Last", l, i, Entry{}, Gone)
	}
	reads(t, "from First to Last", l, 2, entry(2, 1), Good)
	l.device.Lose(2)
	l.device.Fall(0)
	l.device.Flush()
	reads(t, "without power", l, 2, Entry{}, Gone)
	l.Scrub()
	if l.Hurt() != 0 || l.Term(2) != 1 || l.Last() != 2 {
		t.Error("without power:", memory(l))
	}
}

// P6.3: an entry that does not read as Good, or not with its term, is found damaged, with its term if that was known.
func TestReadFindsDamaged(t *testing.T) {
	for name, r := range othersThan(block(entry(6, 3))) {
		l := opens(t, "new", dev.New(8), 0, 4, 5)
		ok(t, "Append", l.Append(row(5, 7, 3)...))
		l.device.Write(2, "")
		put(t, l.device, map[int]slot.Rec{2: r})
		if l.Hurt() != 0 {
			t.Error("before it is read")
		}
		reads(t, name, l, 6, Entry{Index: 6, Term: 3}, Hurt)
		if l.Hurt() != 6 || l.Last() != 7 || l.Term(6) != 3 {
			t.Error(name, memory(l))
		}
	}
	for name, spoil := range spoilers() {
		l := filled(t, 4, 3, 3)
		spoil(l.device, 2)
		spoil(l.device, 6)
		reads(t, name, l, 2, Entry{Index: 2, Term: 3}, Hurt)
		reads(t, name, l, 2, Entry{Index: 2, Term: 3}, Hurt)
		again := opens(t, name, l.device, 0, 4, 1)
		reads(t, name+", opened again", again, 2, Entry{Index: 2}, Unknown)
		if l.Hurt() != 2 || again.Hurt() != 2 || l.Term(2) != 3 || again.Term(2) != 0 {
			t.Error(name, memory(l), memory(again))
		}
	}
	for _, term := range []int{0, 2, 4, pith.Most} {
		l := filled(t, 4, 3, 3)
		put(t, l.device, map[int]slot.Rec{2: block(entry(2, term))})
		reads(t, "another term", l, 2, Entry{Index: 2, Term: 3}, Hurt)
		if l.Hurt() != 2 || l.Term(2) != 3 {
			t.Error("another term", memory(l))
		}
	}
	l := filled(t, 4, 3, 3)
	put(t, l.device, map[int]slot.Rec{2: {Kind: 2, Index: 2, Term: 3, Data: "other data"}})
	reads(t, "other data", l, 2, Entry{2, 3, "other data"}, Good)
}

// P6.3: if the term was known by the mark alone, the entry must have it; if it was not known, it may have any.
func TestReadKnownTerm(t *testing.T) {
	d := filled(t, 4, 3, 3).device
	d.Lose(2)
	hurt := opens(t, "Hurt", d, 0, 4, 1)
	d.Lose(6)
	unknown := opens(t, "Unknown", d, 0, 4, 1)
	put(t, d, map[int]slot.Rec{2: block(entry(2, 5))})
	reads(t, "Hurt", hurt, 2, Entry{Index: 2, Term: 3}, Hurt)
	reads(t, "Unknown", unknown, 2, entry(2, 5), Good)
	if hurt.Hurt() != 2 || unknown.Hurt() != 2 {
		t.Error("what was found is repaired by Mend alone")
	}
	put(t, d, map[int]slot.Rec{2: block(entry(2, 3))})
	reads(t, "Hurt", hurt, 2, entry(2, 3), Good)
}

// P6.3: Hurt is the first entry that was found damaged; Scrub reads all, and finds all of them.
func TestHurtAndScrub(t *testing.T) {
	l := filled(t, 8, 8, 1)
	for _, i := range []int{7, 3, 8, 5, 1} {
		l.device.Lose(i % 8)
	}
	l.Read(2)
	l.Read(4)
	if l.Hurt() != 0 {
		t.Error("not read yet", l.Hurt())
	}
	for _, x := range []struct{ read, hurt int }{{7, 7}, {8, 7}, {3, 3}, {5, 3}, {4, 3}, {0, 3}, {9, 3}} {
		l.Read(x.read)
		if l.Hurt() != x.hurt {
			t.Errorf("Read(%d): Hurt is %d", x.read, l.Hurt())
		}
	}
	l.device.Fall(0)
	l.Scrub()
	if l.Hurt() != 1 || l.device.Down() {
		t.Error("Scrub", l.Hurt())
	}
	l.device.Fall(99)
	for _, x := range []struct{ mend, hurt int }{{3, 1}, {1, 5}, {5, 7}, {8, 7}, {7, 0}} {
		ok(t, "Mend", l.Mend(entry(x.mend, 1)))
		l.Scrub()
		if l.Hurt() != x.hurt {
			t.Errorf("Mend(%d): Hurt is %d", x.mend, l.Hurt())
		}
	}
	holds(t, "mended", l, row(1, 8, 1)...)
}

// P6.4: Append writes all entries, then a Flush, then all marks, then a Flush.
func TestAppendInTurn(t *testing.T) {
	l := filled(t, 5, 3, 2)
	operates(t, "one", l, func(l *Log) { l.Append(entry(4, 2)) }, "4 F 9 F")
	operates(t, "two", l, func(l *Log) { l.Append(entry(4, 2), entry(5, 3)) }, "4 0 F 9 5 F")
	operates(t, "none", l, func(l *Log) { l.Append() }, "")
	ok(t, "Drop", l.Drop(3))
	operates(t, "round", l, func(l *Log) { l.Append(row(4, 7, 9)...) }, "4 0 1 2 F 9 5 6 7 F")
	ok(t, "Append", l.Append(row(4, 7, 9)...))
	want := append(row(3, 3, 2), row(4, 7, 9)...)
	holds(t, "round", l, want...)
	holds(t, "round, opened", opens(t, "round", l.device.Crash(), 0, 5, 3), want...)
}

// P6.4: an entry may have 0 to MaxData bytes, of any kind, and a term of 1 to MaxTime.
func TestAppendAny(t *testing.T) {
	list := []Entry{
		{1, 1, ""}, {2, api.MaxTime, strings.Repeat("x", MaxData)}, {3, 1, "\x00\xff\n"},
		{4, 2, strings.Repeat("\x00", MaxData)}, {5, api.MaxTime - 1, "ä"},
	}
	d := dev.New(10)
	l := opens(t, "new", d, 0, 5, 1)
	ok(t, "Append", l.Append(list...))
	if l.Room() != 0 {
		t.Error(l.Room())
	}
	holds(t, "any", l, list...)
	holds(t, "any, opened", opens(t, "any", d.Crash(), 0, 5, 1), list...)
	ok(t, "none", l.Append())
	ok(t, "none", l.Append([]Entry{}...))
}

// P6.4: Append returns ErrFull, then for each entry in order ErrGap or ErrArg; then nothing has changed.
func TestAppendRefuses(t *testing.T) {
	long := strings.Repeat("x", MaxData+1)
	l := filled(t, 5, 2, 4)
	for name, x := range map[string]struct {
		list []Entry
		want api.Errno
	}{
		"too many":                          {row(3, 6, 4), api.ErrFull},
		"too many, with a gap":              {row(4, 7, 4), api.ErrFull},
		"too many, bad ones":                {[]Entry{{}, {}, {}, {}}, api.ErrFull},
		"a gap":                             {row(4, 5, 4), api.ErrGap},
		"the last one again":                {row(2, 3, 4), api.ErrGap},
		"Index 0":                           {[]Entry{{0, 4, "x"}}, api.ErrGap},
		"below 0":                           {[]Entry{{-3, 4, "x"}}, api.ErrGap},
		"a gap, and a bad term":             {[]Entry{{4, 0, "x"}}, api.ErrGap},
		"a gap, and long":                   {[]Entry{{4, 4, long}}, api.ErrGap},
		"a gap later":                       {[]Entry{{3, 4, "x"}, {5, 4, "x"}}, api.ErrGap},
		"the same again":                    {[]Entry{{3, 4, "x"}, {3, 4, "x"}}, api.ErrGap},
		"from its end":                      {[]Entry{{4, 4, "x"}, {3, 4, "x"}}, api.ErrGap},
		"the greatest int":                  {[]Entry{{math.MaxInt, 4, "x"}}, api.ErrGap},
		"the least int":                     {[]Entry{{math.MinInt, 4, "x"}}, api.ErrGap},
		"term 0":                            {[]Entry{{3, 0, "x"}}, api.ErrArg},
		"term below 0":                      {[]Entry{{3, -1, "x"}}, api.ErrArg},
		"term of the least int":             {[]Entry{{3, math.MinInt, "x"}}, api.ErrArg},
		"term above MaxTime":                {[]Entry{{3, api.MaxTime + 1, "x"}}, api.ErrArg},
		"term of the greatest int":          {[]Entry{{3, math.MaxInt, "x"}}, api.ErrArg},
		"long":                              {[]Entry{{3, 4, long}}, api.ErrArg},
		"long later":                        {[]Entry{{3, 4, "x"}, {4, 4, long}}, api.ErrArg},
		"a bad term, then a gap":            {[]Entry{{3, 0, "x"}, {5, 4, "x"}}, api.ErrArg},
		"a gap, then a bad term":            {[]Entry{{5, 4, "x"}, {4, 0, "x"}}, api.ErrGap},
		"a bad term later":                  {[]Entry{{3, 4, "x"}, {4, 4, "x"}, {5, 0, "x"}}, api.ErrArg},
		"a bad term later, and a gap later": {[]Entry{{3, 4, "x"}, {4, 0, "x"}, {6, 4, "x"}}, api.ErrArg},
	} {
		refused(t, name, l, func(l *Log) api.Errno { return l.Append(x.list...) }, x.want)
		operates(t, name, l, func(l *Log) { l.Append(x.list...) }, "")
	}
	ok(t, "Append", l.Append(row(3, 5, 4)...))
	refused(t, "full", l, func(l *Log) api.Errno { return l.Append(entry(6, 4)) }, api.ErrFull)
	ok(t, "full, none", l.Append())
	ok(t, "Drop", l.Drop(2))
	refused(t, "full but for one", l, func(l *Log) api.Errno { return l.Append(row(6, 7, 4)...) }, api.ErrFull)
	ok(t, "full but for one", l.Append(entry(6, 4)))
	holds(t, "full", l, row(2, 6, 4)...)
}

// P6.4: terms may fall and rise as they like.
func TestAppendTerms(t *testing.T) {
	l := filled(t, 5, 1, 4)
	ok(t, "a lower term", l.Append(entry(2, 1), entry(3, 9), entry(4, 2)))
	holds(t, "terms", l, entry(1, 4), entry(2, 1), entry(3, 9), entry(4, 2))
}

// P6.4: without power Append returns the device's error, and the log in memory is unchanged; an empty list has no effect.
func TestAppendFails(t *testing.T) {
	for n := range 6 {
		l := filled(t, 5, 2, 4)
		was := memory(l)
		l.device.Fall(n)
		if e := l.Append(row(3, 4, 5)...); e != api.ErrDown || memory(l) != was {
			t.Errorf("Fall(%d): %d, %s", n, e, memory(l))
		}
		if e := l.Append(row(3, 4, 5)...); e != api.ErrDown {
			t.Errorf("Fall(%d), again: %d", n, e)
		}
		ok(t, "none, without power", l.Append())
		refused(t, "without power, full", l, func(l *Log) api.Errno { return l.Append(row(3, 6, 1)...) }, api.ErrFull)
		refused(t, "without power, a gap", l, func(l *Log) api.Errno { return l.Append(entry(4, 1)) }, api.ErrGap)
		refused(t, "without power, a bad term", l, func(l *Log) api.Errno { return l.Append(entry(3, 0)) }, api.ErrArg)
	}
	l := filled(t, 5, 2, 4)
	l.device.Fall(6)
	ok(t, "power for all", l.Append(row(3, 4, 5)...))
}

// P6.4: Append writes over whatever is in the places, also over what was damaged since they were cleaned.
func TestAppendOverDamage(t *testing.T) {
	for name, spoil := range spoilers() {
		l := filled(t, 5, 2, 4)
		for _, b := range []int{3, 8, 9} {
			spoil(l.device, b)
		}
		ok(t, name, l.Append(row(3, 4, 5)...))
		holds(t, name, l, append(row(1, 2, 4), row(3, 4, 5)...)...)
		holds(t, name, opens(t, name, l.device.Crash(), 0, 5, 1), append(row(1, 2, 4), row(3, 4, 5)...)...)
	}
}

// P6.4: Cut removes the entries from an index on, and cleans their places: the marks, a Flush, the entries, a Flush.
func TestCut(t *testing.T) {
	for from := 1; from <= 5; from++ {
		l := filled(t, 6, 4, 2)
		want := ""
		for _, shift := range []int{6, 0} {
			for i := from; i <= 4; i++ {
				want += " " + strconv.Itoa(i+shift)
			}
			if from <= 4 {
				want += " F"
			}
		}
		operates(t, "Cut", l, func(l *Log) { l.Cut(from) }, strings.TrimSpace(want))
		ok(t, "Cut", l.Cut(from))
		holds(t, "cut", l, row(1, from-1, 2)...)
		if l.Room() != 7-from || l.Term(from) != 0 || l.Hurt() != 0 {
			t.Errorf("Cut(%d): %s", from, memory(l))
		}
		left := map[int]slot.Rec{}
		for _, x := range row(1, from-1, 2) {
			left[x.Index], left[x.Index+6] = block(x), mark(x.Index, 2)
		}
		contains(t, "cut", l.device, left)
		contains(t, "cut, durable", l.device.Crash(), left)
		ok(t, "Append", l.Append(row(from, 6, 3)...))
		holds(t, "appended", l, append(row(1, from-1, 2), row(from, 6, 3)...)...)
		holds(t, "appended, opened", opens(t, "cut", l.device.Crash(), 0, 6, 1), append(row(1, from-1, 2), row(from, 6, 3)...)...)
	}
}

// P6.4: Cut goes round with the ring, and cleans the places of the removed entries alone.
func TestCutRound(t *testing.T) {
	l := filled(t, 5, 5, 2)
	ok(t, "Drop", l.Drop(4))
	ok(t, "Append", l.Append(row(6, 7, 3)...))
	l.device.Lose(3)
	l.device.Lose(8)
	operates(t, "round", l, func(l *Log) { l.Cut(5) }, "5 6 7 F 0 1 2 F")
	ok(t, "Cut", l.Cut(5))
	holds(t, "cut", l, entry(4, 2))
	if _, e := l.device.Read(3); e != api.ErrBad {
		t.Error("another place was cleaned")
	}
	if l.First() != 4 || l.Room() != 4 {
		t.Error(memory(l))
	}
}

// P6.4: what is damaged of the entries that are removed is cleaned too, what is empty or of a former Index is not.
func TestCutDamaged(t *testing.T) {
	for name, spoil := range spoilers() {
		l := filled(t, 6, 4, 2)
		spoil(l.device, 3)
		spoil(l.device, 10)
		l.Scrub()
		if l.Hurt() != 3 {
			t.Fatal(name, l.Hurt())
		}
		operates(t, name, l, func(l *Log) { l.Cut(3) }, "9 10 F 3 4 F")
		ok(t, name, l.Cut(3))
		if l.Hurt() != 0 || l.Last() != 2 {
			t.Error(name, memory(l))
		}
		holds(t, name, opens(t, name, l.device.Crash(), 0, 6, 1), row(1, 2, 2)...)
	}
	l := filled(t, 6, 4, 2)
	l.device.Write(9, "")
	l.device.Write(4, "")
	slot.Write(l.device, 10, slot.Rec{Kind: 3, Index: 3, Term: 2})
	l.device.Flush()
	operates(t, "not all", l, func(l *Log) { l.Cut(3) }, "3 F")
	slot.Write(l.device, 3, slot.Rec{})
	slot.Write(l.device, 2, slot.Rec{Kind: 2, Index: 1})
	l.device.Flush()
	operates(t, "none", l, func(l *Log) { l.Cut(3) }, "")
	operates(t, "one more", l, func(l *Log) { l.Cut(2) }, "8 F")
}

// P6.4: damage that was found before the cut remains found, and that after it does not.
func TestCutForgets(t *testing.T) {
	l := filled(t, 6, 5, 2)
	for _, i := range []int{2, 4} {
		l.device.Lose(i)
	}
	l.Scrub()
	ok(t, "Cut", l.Cut(4))
	if l.Hurt() != 2 || l.Term(4) != 0 || l.Term(5) != 0 || l.Term(2) != 2 {
		t.Error("Cut(4)", memory(l))
	}
	ok(t, "Append", l.Append(entry(4, 7)))
	if l.Hurt() != 2 || l.Term(4) != 7 || l.Term(5) != 0 {
		t.Error("Append", memory(l))
	}
	ok(t, "Cut", l.Cut(2))
	if l.Hurt() != 0 || l.Term(2) != 0 {
		t.Error("Cut(2)", memory(l))
	}
	reads(t, "cut", l, 2, Entry{}, Gone)
}

// P6.4: Cut and Drop return ErrArg unless the index is from First to Last + 1; then nothing has changed.
func TestCutAndDropRefuse(t *testing.T) {
	l := filled(t, 6, 5, 2)
	ok(t, "Drop", l.Drop(3))
	for _, i := range []int{2, 7, 8, 1, 0, -1, math.MinInt, math.MinInt + 2, math.MaxInt} {
		refused(t, "Cut", l, func(l *Log) api.Errno { return l.Cut(i) }, api.ErrArg)
		refused(t, "Drop", l, func(l *Log) api.Errno { return l.Drop(i) }, api.ErrArg)
	}
	empty := opens(t, "empty", dev.New(4), 0, 2, 5)
	for _, i := range []int{4, 6, 0} {
		refused(t, "Cut", empty, func(l *Log) api.Errno { return l.Cut(i) }, api.ErrArg)
		refused(t, "Drop", empty, func(l *Log) api.Errno { return l.Drop(i) }, api.ErrArg)
	}
	refused(t, "Cut of none", empty, func(l *Log) api.Errno { return l.Cut(5) }, api.OK)
	refused(t, "Drop of none", empty, func(l *Log) api.Errno { return l.Drop(5) }, api.OK)
}

// P6.4: without power Cut returns the device's error, and the log in memory is unchanged; if there is nothing to cut it is OK.
func TestCutFails(t *testing.T) {
	for n := range 6 {
		l := filled(t, 5, 4, 2)
		l.device.Lose(3)
		l.Scrub()
		was := memory(l)
		l.device.Fall(n)
		if e := l.Cut(3); e != api.ErrDown || memory(l) != was {
			t.Errorf("Fall(%d): %d, %s", n, e, memory(l))
		}
		if e := l.Cut(4); e != api.ErrDown || memory(l) != was {
			t.Errorf("Fall(%d), again: %d, %s", n, e, memory(l))
		}
		ok(t, "none, without power", l.Cut(5))
		refused(t, "without power", l, func(l *Log) api.Errno { return l.Cut(6) }, api.ErrArg)
	}
	l := filled(t, 5, 4, 2)
	l.device.Fall(6)
	ok(t, "power for all", l.Cut(3))
}

// P6.4: Mend writes an entry, a Flush, its mark, a Flush; then it is no longer damaged, and its term is known.
func TestMend(t *testing.T) {
	for name, spoil := range spoilers() {
		d := filled(t, 5, 4, 2).device
		spoil(d, 3)
		for _, l := range []*Log{opens(t, name, d.Clone(), 0, 5, 1), filled(t, 5, 4, 2)} {
			spoil(l.device, 3)
			spoil(l.device, 1)
			l.Scrub()
			operates(t, name, l, func(l *Log) { l.Mend(entry(3, 2)) }, "3 F 8 F")
			ok(t, name, l.Mend(entry(3, 2)))
			if l.Hurt() != 1 || l.Term(3) != 2 || l.Last() != 4 {
				t.Error(name, memory(l))
			}
			reads(t, name, l, 3, entry(3, 2), Good)
			ok(t, name, l.Mend(entry(1, 2)))
			holds(t, name, l, row(1, 4, 2)...)
			holds(t, name, opens(t, name, l.device.Crash(), 0, 5, 1), row(1, 4, 2)...)
			if l.Hurt() != 0 {
				t.Error(name, memory(l))
			}
		}
	}
}

// P6.4: an entry whose term is not known may be mended with any term, and has that from then on.
func TestMendUnknown(t *testing.T) {
	for _, term := range []int{1, 2, 7, api.MaxTime} {
		d := filled(t, 5, 4, 2).device
		d.Lose(3)
		d.Lose(8)
		l := opens(t, "Unknown", d, 0, 5, 1)
		reads(t, "Unknown", l, 3, Entry{Index: 3}, Unknown)
		operates(t, "Unknown", l, func(l *Log) { l.Mend(entry(3, term)) }, "3 F 8 F")
		ok(t, "Mend", l.Mend(entry(3, term)))
		reads(t, "mended", l, 3, entry(3, term), Good)
		if l.Term(3) != term || l.Hurt() != 0 {
			t.Error(memory(l))
		}
		refused(t, "another term", l, func(l *Log) api.Errno { return l.Mend(entry(3, term%5+1)) }, api.ErrGap)
		reads(t, "opened", opens(t, "opened", d.Crash(), 0, 5, 1), 3, entry(3, term), Good)
		d.Lose(3)
		reads(t, "lost again", opens(t, "lost again", d, 0, 5, 1), 3, Entry{Index: 3, Term: term}, Hurt)
	}
}

// P6.4: Mend returns ErrArg for what is out of its bounds, then ErrGap for another term; then nothing has changed.
func TestMendRefuses(t *testing.T) {
	l := filled(t, 6, 5, 2)
	ok(t, "Drop", l.Drop(2))
	l.device.Lose(3)
	l.device.Lose(4)
	l.device.Lose(10)
	l = opens(t, "damaged", l.device, 0, 6, 2)
	long := strings.Repeat("x", MaxData+1)
	for _, x := range []struct {
		x    Entry
		want api.Errno
	}{
		{entry(1, 2), api.ErrArg}, {entry(6, 2), api.ErrArg}, {entry(7, 2), api.ErrArg}, {entry(0, 2), api.ErrArg},
		{entry(-1, 2), api.ErrArg}, {entry(math.MinInt, 2), api.ErrArg}, {entry(math.MaxInt, 2), api.ErrArg},
		{entry(3, 0), api.ErrArg}, {entry(3, -1), api.ErrArg}, {entry(3, api.MaxTime+1), api.ErrArg},
		{entry(4, 0), api.ErrArg}, {entry(4, api.MaxTime+1), api.ErrArg},
		{Entry{3, 2, long}, api.ErrArg}, {Entry{4, 2, long}, api.ErrArg}, {Entry{3, 9, long}, api.ErrArg},
		{entry(1, 9), api.ErrArg}, {entry(3, 1), api.ErrGap}, {entry(3, 3), api.ErrGap}, {entry(2, 1), api.ErrGap},
		{entry(5, api.MaxTime), api.ErrGap}, {Entry{}, api.ErrArg},
	} {
		refused(t, "Mend", l, func(l *Log) api.Errno { return l.Mend(x.x) }, x.want)
		operates(t, "Mend", l, func(l *Log) { l.Mend(x.x) }, "")
	}
	l.device.Fall(0)
	l.device.Flush()
	refused(t, "without power", l, func(l *Log) api.Errno { return l.Mend(entry(3, 0)) }, api.ErrArg)
	refused(t, "without power", l, func(l *Log) api.Errno { return l.Mend(entry(3, 5)) }, api.ErrGap)
	refused(t, "without power", l, func(l *Log) api.Errno { return l.Mend(entry(3, 2)) }, api.ErrDown)
}

// P6.4: an entry that is not damaged may be mended too, also with other data.
func TestMendGood(t *testing.T) {
	l := filled(t, 5, 4, 2)
	operates(t, "other data", l, func(l *Log) { l.Mend(Entry{3, 2, ""}) }, "3 F 8 F")
	ok(t, "other data", l.Mend(Entry{3, 2, ""}))
	want := []Entry{entry(1, 2), entry(2, 2), {3, 2, ""}, entry(4, 2)}
	holds(t, "other data", l, want...)
	full := strings.Repeat("y", MaxData)
	ok(t, "full data", l.Mend(Entry{3, 2, full}))
	want[2].Data = full
	holds(t, "full data", opens(t, "full data", l.device.Crash(), 0, 5, 1), want...)
}

// P6.5: an entry that is intact is not written over by Mend: that could damage it.
func TestMendIntact(t *testing.T) {
	l := filled(t, 5, 4, 2)
	operates(t, "intact", l, func(l *Log) { l.Mend(entry(3, 2)) }, "F 8 F")
	for n := range 4 {
		for _, fate := range []dev.Fate{dev.Lost, dev.Kept, dev.Torn} {
			c := cloned(l)
			c.device.Fall(n)
			c.Mend(entry(3, 2))
			holds(t, "intact", opens(t, "intact", c.device.Crash(fate), 0, 5, 1), row(1, 4, 2)...)
		}
	}
	l.device.Lose(8)
	ok(t, "its mark is lost", l.Mend(entry(3, 2)))
	l.device.Lose(3)
	reads(t, "its mark was written", opens(t, "its mark was written", l.device, 0, 5, 1), 3, Entry{Index: 3, Term: 2}, Hurt)
}

// P6.4: without power Mend returns the device's error, and the entry is still damaged.
func TestMendFails(t *testing.T) {
	for n := range 4 {
		l := filled(t, 5, 4, 2)
		l.device.Lose(3)
		l.Scrub()
		was := memory(l)
		l.device.Fall(n)
		if e := l.Mend(entry(3, 2)); e != api.ErrDown || memory(l) != was || l.Hurt() != 3 {
			t.Errorf("Fall(%d): %d, %s", n, e, memory(l))
		}
	}
	l := filled(t, 5, 4, 2)
	l.device.Lose(3)
	l.device.Fall(4)
	ok(t, "power for all", l.Mend(entry(3, 2)))
}

// P6.4: Drop lets First become an index; nothing is written, and there is room again.
func TestDrop(t *testing.T) {
	for first := 2; first <= 6; first++ {
		l := filled(t, 6, 5, 2)
		ok(t, "Drop", l.Drop(2))
		l.device.Lose(3)
		l.device.Lose(5)
		l.Scrub()
		l.device.Fall(0)
		was := look(l.device)
		ok(t, "Drop", l.Drop(first))
		if look(l.device) != was || l.device.Down() {
			t.Error("Drop writes")
		}
		hurt := 3
		if first > 3 {
			hurt = 5
		}
		if first > 5 {
			hurt = 0
		}
		if l.First() != first || l.Last() != 5 || l.Room() != first || l.Hurt() != hurt {
			t.Errorf("Drop(%d): %s", first, memory(l))
		}
		for i := range 8 {
			term := 2
			if i < first || i > 5 {
				term = 0
			}
			if l.Term(i) != term {
				t.Errorf("Drop(%d): Term(%d) is %d", first, i, l.Term(i))
			}
		}
		reads(t, "dropped", l, first-1, Entry{}, Gone)
		l.device.Fall(99)
		ok(t, "Append", l.Append(row(6, 5+first, 3)...))
		again := opens(t, "dropped", l.device.Crash(), 0, 6, first)
		if again.Last() != 5+first || again.Hurt() != hurt || again.Room() != 0 {
			t.Error("dropped, opened:", memory(again))
		}
	}
	l := filled(t, 6, 5, 2)
	l.device.Fall(0)
	l.device.Flush()
	ok(t, "without power", l.Drop(4))
}

// P6.1 to P6.5: the ring goes round time and again.
func TestRing(t *testing.T) {
	for _, size := range []int{1, 2, 3, 5} {
		d := dev.New(2*size + 3)
		l := opens(t, "new", d, 2, size, 1)
		next := 1
		for round := range 40 {
			count := min(round%size+1, l.Room())
			ok(t, "Append", l.Append(row(next, next+count-1, round+1)...))
			next += count
			d = d.Crash()
			if l.Room() == 0 {
				ok(t, "Drop", l.Drop(next-round%size))
			}
			was := l
			l = opens(t, "round", d, 2, size, l.First())
			if memory(l) != memory(was) || l.Last() != next-1 {
				t.Fatalf("round %d: %s, was %s", round, memory(l), memory(was))
			}
		}
		if next < 30 {
			t.Error("it did not go round", size, next)
		}
	}
}

// P6.4: a nil Log has no entries, and returns ErrArg; a zero Log has no places.
func TestNil(t *testing.T) {
	var l *Log
	l.Scrub()
	if l.First() != 1 || l.Last() != 0 || l.Room() != 0 || l.Term(1) != 0 || l.Hurt() != 0 {
		t.Error("nil")
	}
	for _, i := range []int{0, 1, -1, math.MinInt, math.MaxInt} {
		reads(t, "nil", l, i, Entry{}, Gone)
		if l.Cut(i) != api.ErrArg || l.Drop(i) != api.ErrArg || l.Mend(entry(i, 1)) != api.ErrArg || l.Append(entry(i, 1)) != api.ErrArg {
			t.Error("nil", i)
		}
	}
	if l.Append() != api.ErrArg || l.Append([]Entry{}...) != api.ErrArg {
		t.Error("nil, an empty list")
	}
	zero := &Log{}
	zero.Scrub()
	for i := range 2 {
		reads(t, "zero", zero, i, Entry{}, Gone)
		zero.Cut(i)
		zero.Drop(i)
		zero.Mend(entry(i, 1))
		zero.Append(entry(i, 1))
	}
	if zero.Room() != 0 || zero.Hurt() != 0 || zero.Term(0) != 0 {
		t.Error("zero")
	}
}

// P6.4: Append keeps nothing of the list.
func TestAppendKeepsNothing(t *testing.T) {
	l := filled(t, 5, 0, 1)
	list := row(1, 3, 1)
	ok(t, "Append", l.Append(list...))
	for i := range list {
		list[i] = Entry{}
	}
	holds(t, "kept", l, row(1, 3, 1)...)
}
