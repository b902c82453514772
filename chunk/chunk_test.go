package chunk

import (
	"math"
	"slices"
	"strconv"
	"strings"
	"testing"

	"orchard/api"
	"orchard/dev"
	"orchard/pith"
	"orchard/slot"
	"orchard/sum"
)

// text returns so many bytes, others for each seed, in which no two chunks are equal.
func text(size, seed int) string {
	b := make([]byte, size)
	for i := range b {
		b[i] = byte(i*7 + i/Size*11 + i*i/Size + seed*101)
	}
	return string(b)
}

// copyRec and partRec are the blocks of a copy of a List, and of a chunk, by the letter of P7.2.
func copyRec(l List) slot.Rec {
	b := pith.Num(nil, l.Bytes)
	b = pith.Num(b, len(l.Sums))
	for _, x := range l.Sums {
		b = pith.Num(b, int(x))
	}
	return slot.Rec{Kind: 4, Index: l.Index, Term: l.Term, Data: string(b)}
}
func partRec(index, k int, data string) slot.Rec {
	return slot.Rec{Kind: 5, Index: index, Term: k, Data: data}
}

// put writes blocks of a device, and makes them durable.
func put(t *testing.T, d *dev.Device, list map[int]slot.Rec) {
	t.Helper()
	for b, r := range list {
		ok(t, "block "+strconv.Itoa(b), slot.Write(d, b, r))
	}
	d.Flush()
}

// contains checks what all blocks of a device hold; those that are not in the list are empty.
func contains(t *testing.T, what string, d *dev.Device, list map[int]slot.Rec) {
	t.Helper()
	for b := range d.Size() {
		r, state, e := slot.Read(d, b)
		want, some := list[b]
		if r != want || e != api.OK || state == slot.Bad || (state == slot.Good) != some {
			t.Errorf("%s: block %d is %d, %d, %d, %q, %d, %d, want %d, %d, %d, %q", what, b,
				r.Kind, r.Index, r.Term, r.Data, state, e, want.Kind, want.Index, want.Term, want.Data)
		}
	}
}

// ok checks that there was no error.
func ok(t *testing.T, what string, e api.Errno) {
	t.Helper()
	if e != api.OK {
		t.Fatalf("%s: %d", what, e)
	}
}

// opens returns the store of a device, which must be opened without an error.
func opens(t *testing.T, what string, d *dev.Device, base int) *Store {
	t.Helper()
	s, e := Open(d, base)
	if s == nil || e != api.OK {
		t.Fatalf("%s: Open = %d", what, e)
	}
	return s
}

// filled returns a store at block 0 of a new device, with one snapshot in its first area.
func filled(t *testing.T, index, term int, data string) *Store {
	t.Helper()
	s := opens(t, "new", dev.New(Blocks), 0)
	ok(t, "filled", s.Put(index, term, data))
	return s
}

// lists checks which List a store has; the zero List: none.
func lists(t *testing.T, what string, s *Store, want List) {
	t.Helper()
	l, is := s.List()
	if !l.Same(want) || is != !want.Same(List{}) {
		t.Errorf("%s: the List is %d, %d, %d, %d Sums, %t, want %d, %d, %d, %d Sums", what,
			l.Index, l.Term, l.Bytes, len(l.Sums), is, want.Index, want.Term, want.Bytes, len(want.Sums))
	}
}

// holds checks that a store has a snapshot, whole.
func holds(t *testing.T, what string, s *Store, index, term int, data string) {
	t.Helper()
	lists(t, what, s, Of(index, term, data))
	if got, e := s.Data(); got != data || e != api.OK {
		t.Errorf("%s: %d bytes of data, %d, want %d", what, len(got), e, len(data))
	}
	for k, c := range Cut(data) {
		reads(t, what, s, k, c, api.OK)
	}
	hurts(t, what, s)
}

// reads checks how one chunk reads.
func reads(t *testing.T, what string, s *Store, k int, want string, e api.Errno) {
	t.Helper()
	if got, err := s.Chunk(k); got != want || err != e {
		t.Errorf("%s: Chunk(%d) is of %d bytes, %d, want %d, %d", what, k, len(got), err, len(want), e)
	}
}

// hurts checks which chunks are damaged.
func hurts(t *testing.T, what string, s *Store, want ...int) {
	t.Helper()
	if got := s.Hurt(); !slices.Equal(got, want) {
		t.Errorf("%s: Hurt is %v, want %v", what, got, want)
	}
}

// cloned returns an independent copy of a store, on a copy of its device.
func cloned(s *Store) *Store {
	c := *s
	c.device = s.device.Clone()
	return &c
}

// contents are the bytes of the blocks of a device, those that are lost among them.
func contents(d *dev.Device) []string {
	list := make([]string, d.Size())
	for b := range list {
		s, e := d.Read(b)
		list[b] = s
		if e != api.OK {
			list[b] = "lost"
		}
	}
	return list
}

// refused checks that there was an error, and that the store, and the device, are as they were.
func refused(t *testing.T, what string, s *Store, do func(s *Store) api.Errno, want api.Errno) {
	t.Helper()
	c := cloned(s)
	c.device.Fall(0)
	if e := do(c); e != want || c.device.Down() {
		t.Errorf("%s: %d, want %d, down %t", what, e, want, c.device.Down())
	}
	l, _ := s.List()
	lists(t, what, c, l)
}

// step is an operation: a write to a block, or a Flush.
type step struct {
	block int
	rec   slot.Rec
	flush bool
}

// write and flush are steps.
func write(block int, rec slot.Rec) step { return step{block: block, rec: rec} }
func flush() step                        { return step{flush: true} }

// takes checks that something is done in these operations, in order: the power fails after each number of them,
// and then all of the writes that were not durable are lost, or all are kept. (No block may be lost before.)
func takes(t *testing.T, what string, s *Store, do func(s *Store) api.Errno, list ...step) {
	t.Helper()
	was, _ := s.List()
	durable := contents(s.device.Crash())
	written := slices.Clone(durable)
	for n := range len(list) + 1 {
		c := cloned(s)
		c.device.Fall(n)
		e := do(c)
		if want := []api.Errno{api.ErrDown, api.OK}[n/len(list)]; e != want {
			t.Errorf("%s: after %d operations: %d, want %d", what, n, e, want)
		}
		if e != api.OK {
			lists(t, what+", failed", c, was)
		} else if c.device.Flush() != api.ErrDown {
			t.Errorf("%s: not %d operations", what, n)
		}
		if got := contents(c.device.Crash()); !slices.Equal(got, durable) {
			t.Errorf("%s: after %d operations, Lost", what, n)
		}
		if got := contents(c.device.Crash(slices.Repeat([]dev.Fate{dev.Kept}, len(list))...)); !slices.Equal(got, written) {
			t.Errorf("%s: after %d operations, Kept", what, n)
		}
		if n == len(list) {
			return
		}
		if list[n].flush {
			durable = slices.Clone(written)
		} else {
			written[list[n].block], _ = slot.Put(list[n].rec)
		}
	}
}

// spoilers make a block bad, or not what it should be, each in a way of its own.
func spoilers() map[string]func(d *dev.Device, block int) {
	list := map[string]func(d *dev.Device, block int){
		"lost":    func(d *dev.Device, block int) { d.Lose(block) },
		"flipped": func(d *dev.Device, block int) { d.Flip(block, 30, 2) },
		"empty":   func(d *dev.Device, block int) { d.Write(block, "") },
		"half": func(d *dev.Device, block int) {
			s, _ := d.Read(block)
			d.Write(block, s[:len(s)/2])
		},
	}
	for name, change := range map[string]func(r *slot.Rec){
		"of another Kind":           func(r *slot.Rec) { r.Kind = 9 - r.Kind },
		"of Kind 0":                 func(r *slot.Rec) { r.Kind = 0 },
		"of a lower Index":          func(r *slot.Rec) { r.Index-- },
		"of Index 0":                func(r *slot.Rec) { r.Index = 0 },
		"of another Term":           func(r *slot.Rec) { r.Term++ },
		"without data":              func(r *slot.Rec) { r.Data = "" },
		"with a byte less":          func(r *slot.Rec) { r.Data = r.Data[:len(r.Data)-1] },
		"with a byte more":          func(r *slot.Rec) { r.Data += "\x00" },
		"with another byte":         func(r *slot.Rec) { r.Data = r.Data[:len(r.Data)-1] + "\x00" },
		"with another byte, before": func(r *slot.Rec) { r.Data = r.Data[:5] + "\x02" + r.Data[6:] },
	} {
		list[name] = func(d *dev.Device, block int) {
			r, _, _ := slot.Read(d, block)
			change(&r)
			slot.Write(d, block, r)
		}
	}
	return list
}

// spoil makes a block other than it should be, durably.
func spoil(d *dev.Device, name string, block int) {
	spoilers()[name](d, block)
	d.Flush()
}

// P7.1: chunks of 400 bytes, in order, the last one with the remaining bytes, none for empty data.
func TestCut(t *testing.T) {
	if Size != 400 || MaxChunks != 64 || Blocks != 132 {
		t.Error("constants")
	}
	for _, x := range []struct{ size, chunks, last int }{
		{0, 0, 0}, {1, 1, 1}, {399, 1, 399}, {400, 1, 400}, {401, 2, 1}, {800, 2, 400}, {900, 3, 100},
		{25599, 64, 399}, {25600, 64, 400}, {25601, 65, 1}, {70000, 175, 400},
	} {
		data := text(x.size, 1)
		list := Cut(data)
		if len(list) != x.chunks || strings.Join(list, "") != data {
			t.Errorf("%d bytes: %d chunks", x.size, len(list))
		}
		for k, c := range list {
			want := 400
			if k == x.chunks-1 {
				want = x.last
			}
			if len(c) != want {
				t.Errorf("%d bytes: chunk %d has %d", x.size, k, len(c))
			}
		}
	}
	if got := Cut("\xff\x00\xc3"); len(got) != 1 || got[0] != "\xff\x00\xc3" {
		t.Errorf("%q", got)
	}
}

// P7.1: Of has the Index, the Term, the length, and the checksums of the chunks, whatever these are.
func TestOf(t *testing.T) {
	nine := strings.Repeat("123456789", 100)
	if l := Of(3, 2, "123456789"); l.Index != 3 || l.Term != 2 || l.Bytes != 9 || !slices.Equal(l.Sums, []sum.Sum{0xe3069283}) {
		t.Error(l)
	}
	if l := Of(3, 2, ""); l.Index != 3 || l.Term != 2 || l.Bytes != 0 || len(l.Sums) != 0 {
		t.Error(l)
	}
	want := []sum.Sum{sum.Of(nine[:400]), sum.Of(nine[400:800]), sum.Of(nine[800:])}
	if l := Of(1, 1, nine); l.Bytes != 900 || !slices.Equal(l.Sums, want) {
		t.Error(l)
	}
	for _, n := range []int{0, -1, math.MinInt, api.MaxTime + 1, math.MaxInt} {
		if l := Of(n, n, text(25601, 1)); l.Index != n || l.Term != n || l.Bytes != 25601 || len(l.Sums) != 65 {
			t.Error(l)
		}
	}
}

// P7.1: Same compares all fields.
func TestSame(t *testing.T) {
	full := func() List { return List{Index: 5, Term: 2, Bytes: 401, Sums: []sum.Sum{7, 9}} }
	if !full().Same(full()) || !(List{}).Same(List{}) || !(List{Sums: []sum.Sum{}}).Same(List{}) {
		t.Error("not the same")
	}
	for k, change := range []func(l *List){
		func(l *List) { l.Index = 6 },
		func(l *List) { l.Term = 3 },
		func(l *List) { l.Bytes = 402 },
		func(l *List) { l.Sums[0] = 8 },
		func(l *List) { l.Sums[1] = 8 },
		func(l *List) { l.Sums = l.Sums[:1] },
		func(l *List) { l.Sums = append(l.Sums, 0) },
		func(l *List) { l.Sums = []sum.Sum{9, 7} },
		func(l *List) { l.Sums = nil },
		func(l *List) { *l = List{} },
	} {
		l := full()
		change(&l)
		if l.Same(full()) || full().Same(l) {
			t.Error(k, l)
		}
	}
}

// P7.2: where the copies and the chunks are, and what they contain, in both areas; nothing else is written.
func TestBlocks(t *testing.T) {
	number := func(list ...byte) string {
		b := []byte{}
		for _, n := range list {
			b = append(b, 0, 0, 0, 0, 0, n)
		}
		return string(b)
	}
	d := dev.New(Blocks + 6)
	s := opens(t, "new", d, 3)
	ok(t, "Put", s.Put(5, 2, "123456789"))
	list := slot.Rec{Kind: 4, Index: 5, Term: 2, Data: number(9, 1) + "\x00\x00\xe3\x06\x92\x83"}
	want := map[int]slot.Rec{3: list, 4: list, 5: {Kind: 5, Index: 5, Term: 0, Data: "123456789"}}
	contains(t, "one", d, want)
	contains(t, "one, durable", d.Crash(), want)
	two := text(900, 2)
	ok(t, "Put", s.Put(9, 2, two))
	want[69], want[70] = copyRec(Of(9, 2, two)), copyRec(Of(9, 2, two))
	for k, c := range []string{two[:400], two[400:800], two[800:]} {
		want[71+k] = slot.Rec{Kind: 5, Index: 9, Term: k, Data: c}
	}
	contains(t, "two", d, want)
	contains(t, "two, durable", d.Crash(), want)
	ok(t, "Put", s.Put(10, 3, ""))
	list = slot.Rec{Kind: 4, Index: 10, Term: 3, Data: number(0, 0)}
	want[3], want[4] = list, list
	contains(t, "three", d, want)
	contains(t, "three, durable", d.Crash(), want)
}

// P7.2: ErrArg if there are too few blocks from base on, also without power.
func TestOpenRefuses(t *testing.T) {
	for _, x := range []struct{ size, base int }{
		{Blocks, -1}, {Blocks, math.MinInt}, {Blocks, 1}, {Blocks - 1, 0}, {0, 0}, {1, 0}, {140, 9},
		{api.MaxBlocks, api.MaxBlocks - Blocks + 1}, {api.MaxBlocks, api.MaxBlocks}, {Blocks, math.MaxInt},
		{Blocks, math.MaxInt - Blocks}, {Blocks, math.MaxInt - Blocks + 1},
	} {
		d := dev.New(x.size)
		for range 2 {
			if s, e := Open(d, x.base); s != nil || e != api.ErrArg {
				t.Errorf("%v: %v, %d", x, s, e)
			}
			d.Fall(0)
			d.Flush()
		}
	}
	if s, e := Open(nil, 0); s != nil || e != api.ErrArg {
		t.Error("no device", s, e)
	}
	for _, x := range []struct{ size, base int }{
		{Blocks, 0}, {Blocks + 1, 0}, {Blocks + 1, 1}, {140, 8}, {api.MaxBlocks, api.MaxBlocks - Blocks},
	} {
		s := opens(t, "fits", dev.New(x.size), x.base)
		lists(t, "new", s, List{})
		ok(t, "Put", s.Put(1, 1, text(MaxChunks*Size, 1)))
		holds(t, "fits", opens(t, "fits", s.device.Crash(), x.base), 1, 1, text(MaxChunks*Size, 1))
	}
}

// P7.2: Open returns the device's error of reading, and writes nothing.
func TestOpenFails(t *testing.T) {
	s := filled(t, 5, 1, text(500, 1))
	s.device.Fall(0)
	holds(t, "power that has not failed yet", opens(t, "opened", s.device, 0), 5, 1, text(500, 1))
	s.device.Flush()
	if s, e := Open(s.device, 0); s != nil || e != api.ErrDown {
		t.Error("without power", s, e)
	}
}

// P7.2: the List with the greatest Index counts of which a copy is good, of equal ones that of the first area.
func TestOpenGreatest(t *testing.T) {
	const base = 2
	at := [4]int{base, base + 1, base + 66, base + 67}
	for _, x := range []struct {
		index [4]int // of the four copies, 0: empty
		want  int    // which one counts
	}{
		{[4]int{5, 0, 0, 0}, 0}, {[4]int{0, 5, 0, 0}, 1}, {[4]int{0, 0, 5, 0}, 2}, {[4]int{0, 0, 0, 5}, 3},
		{[4]int{5, 5, 9, 9}, 2}, {[4]int{9, 9, 5, 5}, 0}, {[4]int{5, 5, 9, 0}, 2}, {[4]int{5, 5, 0, 9}, 3},
		{[4]int{5, 9, 7, 8}, 1}, {[4]int{9, 5, 7, 8}, 0}, {[4]int{1, 5, 9, 2}, 2}, {[4]int{1, 5, 2, 9}, 3},
		{[4]int{7, 7, 7, 7}, 0}, {[4]int{0, 7, 7, 7}, 1}, {[4]int{5, 7, 7, 7}, 1}, {[4]int{0, 0, 7, 7}, 2},
		{[4]int{255, 0, 256, 0}, 2}, {[4]int{api.MaxTime, 0, 1, 0}, 0}, {[4]int{1, 1, api.MaxTime, 2}, 2},
	} {
		d := dev.New(Blocks + base)
		for n, index := range x.index {
			if index != 0 {
				put(t, d, map[int]slot.Rec{at[n]: copyRec(Of(index, 10+n, text(500, n)))})
			}
		}
		s := opens(t, "copies", d, base)
		lists(t, "copies", s, Of(x.index[x.want], 10+x.want, text(500, x.want)))
		// Only the chunks of that area are its own.
		for area := range 2 {
			data := text(500, x.want)
			put(t, d, map[int]slot.Rec{
				base + 66*area + 2: partRec(x.index[x.want], 0, data[:400]),
				base + 66*area + 3: partRec(x.index[x.want], 1, data[400:]),
			})
			if area == x.want/2 {
				hurts(t, "its chunks", s)
				break
			}
			hurts(t, "another area's chunks", s, 0, 1)
		}
	}
}

// notCopies are blocks that are not a good copy of a valid List.
func notCopies() map[string]slot.Rec {
	l := Of(9, 2, text(500, 1))
	good := copyRec(l)
	list := map[string]slot.Rec{
		"of Kind 0":                {Kind: 0, Index: 9, Term: 2, Data: good.Data},
		"of Kind 3":                {Kind: 3, Index: 9, Term: 2, Data: good.Data},
		"of Kind 5":                {Kind: 5, Index: 9, Term: 2, Data: good.Data},
		"without data":             {Kind: 4, Index: 9, Term: 2},
		"with one number":          {Kind: 4, Index: 9, Term: 2, Data: good.Data[:6]},
		"with a Sum less":          {Kind: 4, Index: 9, Term: 2, Data: good.Data[:18]},
		"with a byte less":         {Kind: 4, Index: 9, Term: 2, Data: good.Data[:23]},
		"with a byte more":         {Kind: 4, Index: 9, Term: 2, Data: good.Data + "\x00"},
		"with a Sum more":          {Kind: 4, Index: 9, Term: 2, Data: good.Data + good.Data[18:]},
		"with a great Sum":         {Kind: 4, Index: 9, Term: 2, Data: string(pith.Num(nil, 1, 1, 1<<32))},
		"with many Sums announced": {Kind: 4, Index: 9, Term: 2, Data: string(pith.Num(nil, pith.Most, pith.Most))},
	}
	for name, change := range map[string]func(l *List){
		"of Index 0":            func(l *List) { l.Index = 0 },
		"of a great Index":      func(l *List) { l.Index = api.MaxTime + 1 },
		"of Term 0":             func(l *List) { l.Term = 0 },
		"of a great Term":       func(l *List) { l.Term = api.MaxTime + 1 },
		"with too few Bytes":    func(l *List) { l.Bytes = 400 },
		"with too many Bytes":   func(l *List) { l.Bytes = 801 },
		"with no Bytes":         func(l *List) { l.Bytes = 0 },
		"with the most Bytes":   func(l *List) { l.Bytes = pith.Most },
		"with one Sum":          func(l *List) { l.Sums = l.Sums[:1] },
		"with three Sums":       func(l *List) { l.Sums = append(l.Sums, 1) },
		"without Sums":          func(l *List) { l.Sums = nil },
		"with too many of both": func(l *List) { *l = Of(9, 2, text(25601, 1)) },
	} {
		l := Of(9, 2, text(500, 1))
		change(&l)
		list[name] = copyRec(l)
	}
	return list
}

// P7.2: a copy that is not good, or whose List is not valid, does not count, nor does one that is damaged.
func TestOpenNotACopy(t *testing.T) {
	at := [4]int{0, 1, 66, 67}
	for name, rec := range notCopies() {
		d := dev.New(Blocks)
		for _, b := range at {
			put(t, d, map[int]slot.Rec{b: rec})
		}
		lists(t, name, opens(t, name, d, 0), List{})
		for _, b := range at {
			c := d.Clone()
			put(t, c, map[int]slot.Rec{b: copyRec(Of(3, 1, text(300, 1)))})
			lists(t, name, opens(t, name, c, 0), Of(3, 1, text(300, 1)))
		}
	}
	one, two := text(800, 1), text(900, 2)
	for _, name := range []string{"lost", "flipped", "half", "empty"} {
		for n := range 2 {
			s := filled(t, 5, 1, one)
			ok(t, "Put", s.Put(9, 2, two))
			spoil(s.device, name, 66+n)
			holds(t, name+", one copy", opens(t, name, s.device, 0), 9, 2, two)
			s.device.Lose(67 - n)
			holds(t, name+", both copies", opens(t, name, s.device, 0), 5, 1, one)
		}
	}
}

// P7.2: Lists at the limits are valid.
func TestOpenLimits(t *testing.T) {
	for _, l := range []List{
		Of(1, 1, ""), Of(1, 1, "x"), Of(api.MaxTime, api.MaxTime, text(25600, 1)), Of(1, api.MaxTime, text(25201, 1)),
		{Index: 1, Term: 1, Bytes: 401, Sums: []sum.Sum{math.MaxUint32, 0}},
	} {
		d := dev.New(Blocks)
		put(t, d, map[int]slot.Rec{66: copyRec(l)})
		lists(t, "at the limits", opens(t, "at the limits", d, 0), l)
	}
}

// P7.2, rule 4: what List returns is not the store's own.
func TestListIsNew(t *testing.T) {
	s := filled(t, 5, 1, text(900, 1))
	l, _ := s.List()
	l.Sums[1]++
	holds(t, "changed", s, 5, 1, text(900, 1))
}

// P7.3: what was put is the current snapshot, at once and when it is opened again, in areas that alternate.
func TestPutAndOpen(t *testing.T) {
	d := dev.New(Blocks + 1)
	s := opens(t, "new", d, 1)
	lists(t, "new", s, List{})
	index := 0
	for n, size := range []int{900, 0, 1, 25600, 400, 401, 0, 25599, 12, 800} {
		index += 1 + n*n
		data := text(size, n)
		ok(t, "Put", s.Put(index, n+1, data))
		holds(t, "put", s, index, n+1, data)
		if n%3 == 2 {
			d = d.Crash()
			s = opens(t, "put, Crash", d, 1)
		}
		holds(t, "opened", opens(t, "opened", d, 1), index, n+1, data)
		rec, _, _ := slot.Read(d, 1+n%2*66)
		if rec != copyRec(Of(index, n+1, data)) {
			t.Errorf("the %d-th one is not in its area", n)
		}
	}
	ok(t, "Put", s.Put(api.MaxTime, api.MaxTime, "last"))
	holds(t, "the limits", opens(t, "the limits", d.Crash(), 1), api.MaxTime, api.MaxTime, "last")
}

// P7.3: the chunks, Flush, the first copy, Flush, the second one, Flush, in the area that does not have the current List.
func TestPutInTurn(t *testing.T) {
	s := opens(t, "new", dev.New(Blocks+5), 5)
	for n, size := range []int{900, 450, 0, 400, 0, 1201} {
		data, area := text(size, n), 5+n%2*66
		l := Of(7*n+1, n+1, data)
		var list []step
		for k, c := range Cut(data) {
			list = append(list, write(area+2+k, partRec(l.Index, k, c)))
		}
		list = append(list, flush(), write(area, copyRec(l)), flush(), write(area+1, copyRec(l)), flush())
		put := func(s *Store) api.Errno { return s.Put(l.Index, l.Term, data) }
		takes(t, "Put", s, put, list...)
		ok(t, "Put", put(s))
	}
}

// P7.3: which area has the current List is known also if the store was opened, and if one copy alone is there.
func TestPutToTheOtherArea(t *testing.T) {
	for n, b := range []int{0, 1, 66, 67} {
		d := dev.New(Blocks)
		put(t, d, map[int]slot.Rec{b: copyRec(Of(5, 1, ""))})
		s := opens(t, "one copy", d, 0)
		ok(t, "Put", s.Put(6, 1, "abc"))
		list := copyRec(Of(6, 1, "abc"))
		area := 66 - n/2*66
		contains(t, "one copy", d, map[int]slot.Rec{
			b: copyRec(Of(5, 1, "")), area: list, area + 1: list, area + 2: partRec(6, 0, "abc"),
		})
	}
}

// P7.3: ErrArg if the List is not valid or not above the current one; nothing is written then.
func TestPutRefuses(t *testing.T) {
	empty := opens(t, "new", dev.New(Blocks), 0)
	s := filled(t, 5, 3, text(900, 1))
	for _, x := range []struct {
		index, term, size int
	}{
		{0, 1, 1}, {-1, 1, 1}, {math.MinInt, 1, 1}, {api.MaxTime + 1, 1, 1}, {math.MaxInt, 1, 1},
		{9, 0, 1}, {9, -1, 1}, {9, math.MinInt, 1}, {9, api.MaxTime + 1, 1}, {9, math.MaxInt, 1},
		{9, 4, 25601}, {9, 4, 26000}, {9, 4, 100000}, {0, 0, 0}, {0, 0, 25601},
	} {
		put := func(s *Store) api.Errno { return s.Put(x.index, x.term, text(x.size, 2)) }
		refused(t, "not valid", s, put, api.ErrArg)
		refused(t, "not valid, none", empty, put, api.ErrArg)
	}
	for _, index := range []int{5, 4, 1} {
		for _, term := range []int{1, 3, 9} {
			refused(t, "not above", s, func(s *Store) api.Errno { return s.Put(index, term, text(900, 1)) }, api.ErrArg)
		}
	}
	holds(t, "refused", s, 5, 3, text(900, 1))
	ok(t, "a lower Term", s.Put(6, 1, text(900, 2)))
	holds(t, "a lower Term", s, 6, 1, text(900, 2))
	full := opens(t, "the last one", s.device, 0)
	ok(t, "the last one", full.Put(api.MaxTime, 1, ""))
	refused(t, "behind the last one", full, func(s *Store) api.Errno { return s.Put(api.MaxTime, 1, "") }, api.ErrArg)
}

// P7.3: there is no such chunk, or no List.
func TestChunkNone(t *testing.T) {
	s := filled(t, 5, 1, text(900, 1))
	none := opens(t, "new", dev.New(Blocks), 0)
	nothing := filled(t, 5, 1, "")
	for _, k := range []int{3, -1, 4, MaxChunks, math.MaxInt, math.MinInt} {
		reads(t, "three chunks", s, k, "", api.ErrNone)
	}
	s.device.Fall(0)
	s.device.Flush()
	reads(t, "without power", s, 3, "", api.ErrNone)
	for _, k := range []int{0, 1, -1} {
		reads(t, "no List", none, k, "", api.ErrNone)
		reads(t, "no chunks", nothing, k, "", api.ErrNone)
	}
	holds(t, "no chunks", nothing, 5, 1, "")
	if data, e := none.Data(); data != "" || e != api.ErrNone {
		t.Error("no List", data, e)
	}
	hurts(t, "no List", none)
}

// P7.3: a chunk whose block does not contain it is ErrBad; Hurt and Data tell; the others are there.
func TestChunkDamaged(t *testing.T) {
	data := text(1300, 1)
	for name := range spoilers() {
		for bits := range 16 {
			s := filled(t, 5, 1, data)
			var bad []int
			for k, c := range Cut(data) {
				if bits>>k&1 == 1 {
					spoil(s.device, name, 2+k)
					bad = append(bad, k)
					reads(t, name, s, k, "", api.ErrBad)
				} else {
					reads(t, name, s, k, c, api.OK)
				}
			}
			for _, x := range []*Store{s, opens(t, name, s.device.Crash(), 0)} {
				lists(t, name, x, Of(5, 1, data))
				hurts(t, name, x, bad...)
				got, e := x.Data()
				if bits == 0 && (got != data || e != api.OK) || bits != 0 && (got != "" || e != api.ErrBad) {
					t.Errorf("%s: Data is of %d bytes, %d", name, len(got), e)
				}
			}
		}
	}
}

// P7.3: a chunk of another place, or of another snapshot, is not the List's, even if its bytes are.
func TestChunkOfAnother(t *testing.T) {
	data := strings.Repeat("x", 1200)
	for _, rec := range []slot.Rec{
		partRec(5, 0, data[:400]), partRec(5, 2, data[:400]), partRec(4, 1, data[:400]), partRec(6, 1, data[:400]),
		{Kind: 2, Index: 5, Term: 1, Data: data[:400]}, {Kind: 4, Index: 5, Term: 1, Data: data[:400]},
	} {
		s := filled(t, 5, 1, data)
		put(t, s.device, map[int]slot.Rec{3: rec})
		reads(t, "another", s, 1, "", api.ErrBad)
		hurts(t, "another", s, 1)
	}
	// The checksum of the empty text is 0; its length still is not that of a chunk.
	d := dev.New(Blocks)
	put(t, d, map[int]slot.Rec{0: copyRec(List{Index: 5, Term: 1, Bytes: 9, Sums: []sum.Sum{0}}), 2: partRec(5, 0, "")})
	s := opens(t, "another length", d, 0)
	reads(t, "another length", s, 0, "", api.ErrBad)
	refused(t, "another length", s, func(s *Store) api.Errno { return s.Mend(0, "") }, api.ErrArg)
}

// P7.3: the device's error is that of Chunk, Data, Put, Mend and Scrub; Hurt returns those alone that are ErrBad.
func TestWithoutPower(t *testing.T) {
	data := text(900, 1)
	s := filled(t, 5, 1, data)
	s.device.Lose(3)
	hurts(t, "with power", s, 1)
	s.device.Fall(0)
	s.device.Flush()
	for k := range 3 {
		reads(t, "without power", s, k, "", api.ErrDown)
	}
	hurts(t, "without power", s)
	if got, e := s.Data(); got != "" || e != api.ErrDown {
		t.Error(got, e)
	}
	if s.Put(9, 1, "") != api.ErrDown || s.Mend(1, data[400:800]) != api.ErrDown || s.Mend(0, data[:400]) != api.ErrDown || s.Scrub() != api.ErrDown {
		t.Error("no ErrDown")
	}
	if s.Put(5, 1, data) != api.ErrArg || s.Mend(1, data[:400]) != api.ErrArg || s.Mend(3, "") != api.ErrArg {
		t.Error("no ErrArg")
	}
	lists(t, "without power", s, Of(5, 1, data))
	nothing := filled(t, 5, 1, "")
	nothing.device.Fall(0)
	nothing.device.Flush()
	if got, e := nothing.Data(); got != "" || e != api.OK {
		t.Error("no chunks", got, e)
	}
}

// P7.3: Mend returns ErrArg unless there is such a chunk and data is that, by its checksum and its length.
func TestMendRefuses(t *testing.T) {
	data := text(900, 1)
	s := filled(t, 5, 1, data)
	s.device.Lose(3)
	for _, x := range []struct {
		k    int
		data string
	}{
		{-1, data[400:800]}, {3, data[800:]}, {3, ""}, {MaxChunks, ""}, {math.MaxInt, ""}, {math.MinInt, ""},
		{1, ""}, {1, data[:400]}, {1, data[800:]}, {1, data[400:799]}, {1, data[400:801]}, {1, data[400:799] + "x"},
		{1, data}, {2, data[800:899]}, {2, data[800:] + "\x00"}, {0, data[400:800]},
	} {
		refused(t, "Mend", s, func(s *Store) api.Errno { return s.Mend(x.k, x.data) }, api.ErrArg)
	}
	for _, x := range []*Store{opens(t, "new", dev.New(Blocks), 0), filled(t, 5, 1, "")} {
		for _, k := range []int{0, 1, -1} {
			refused(t, "no chunks", x, func(s *Store) api.Errno { return s.Mend(k, "") }, api.ErrArg)
		}
	}
}

// P7.3: Mend writes a chunk that is damaged, whatever became of it, and Flushes.
func TestMend(t *testing.T) {
	data := text(900, 1)
	for name := range spoilers() {
		for k, c := range Cut(data) {
			s := filled(t, 5, 1, data)
			mend := func(s *Store) api.Errno { return s.Mend(k, c) }
			spoil(s.device, name, 2+k)
			hurts(t, name, s, k)
			if name != "lost" {
				takes(t, name, s, mend, write(2+k, partRec(5, k, c)), flush())
			}
			ok(t, name, mend(s))
			holds(t, name, s, 5, 1, data)
			holds(t, name, opens(t, name, s.device.Crash(), 0), 5, 1, data)
		}
	}
}

// P7.3: a chunk of the second area is mended there.
func TestMendInTheSecondArea(t *testing.T) {
	s := filled(t, 5, 1, text(900, 1))
	two := text(700, 2)
	ok(t, "Put", s.Put(6, 1, two))
	was := contents(s.device)
	s.device.Lose(69)
	s.device.Lose(3)
	hurts(t, "lost", s, 1)
	ok(t, "Mend", s.Mend(1, two[400:]))
	holds(t, "mended", s, 6, 1, two)
	was[3] = "lost"
	if !slices.Equal(contents(s.device), was) {
		t.Error("another block was written")
	}
}

// P7.4: Mend of a chunk that is intact does not write over it; it is made durable.
func TestMendIntact(t *testing.T) {
	data := text(900, 1)
	s := filled(t, 5, 1, data)
	for k, c := range Cut(data) {
		mend := func(s *Store) api.Errno { return s.Mend(k, c) }
		takes(t, "intact", s, mend, flush())
		put := s.device.Clone()
		slot.Write(put, 2+k, partRec(5, k, c))
		x := opens(t, "not durable", put, 0)
		ok(t, "not durable", mend(x))
		holds(t, "not durable", opens(t, "not durable", put.Crash(dev.Torn), 0), 5, 1, data)
	}
}

// P7.3: Scrub writes nothing if both copies are those of the List, or if there is none.
func TestScrubIntact(t *testing.T) {
	none := opens(t, "new", dev.New(Blocks), 0)
	refused(t, "no List", none, func(s *Store) api.Errno { return s.Scrub() }, api.OK)
	none.device.Fall(0)
	none.device.Flush()
	if e := none.Scrub(); e != api.OK {
		t.Error("no List, without power", e)
	}
	s := filled(t, 5, 1, text(900, 1))
	refused(t, "intact", s, func(s *Store) api.Errno { return s.Scrub() }, api.OK)
	ok(t, "Put", s.Put(6, 1, ""))
	// The other area's copies and the chunks are not its concern.
	for _, b := range []int{0, 1, 2, 3, 68} {
		s.device.Lose(b)
	}
	refused(t, "intact", s, func(s *Store) api.Errno { return s.Scrub() }, api.OK)
}

// P7.3: Scrub writes both copies, each followed by a Flush, if one is not good, or is that of another List.
// P7.4: a copy that is intact is written last.
func TestScrubDamaged(t *testing.T) {
	one, two := text(500, 1), text(900, 2)
	scrub := func(s *Store) api.Errno { return s.Scrub() }
	for name := range spoilers() {
		for area := range 2 {
			for bits := 1; bits < 4; bits++ {
				s, l := filled(t, 5, 1, one), Of(5, 1, one)
				if area == 1 {
					ok(t, "Put", s.Put(9, 2, two))
					l = Of(9, 2, two)
				}
				for n := range 2 {
					if bits>>n&1 == 1 {
						spoil(s.device, name, area*66+n)
					}
				}
				first, second := write(area*66, copyRec(l)), write(area*66+1, copyRec(l))
				if bits == 2 {
					first, second = second, first
				}
				if name != "lost" {
					takes(t, name, s, scrub, first, flush(), second, flush())
				}
				ok(t, name, scrub(s))
				lists(t, name, s, l)
				for n := range 2 {
					c := s.device.Crash()
					c.Lose(area*66 + n)
					lists(t, name, opens(t, name, c, 0), l)
				}
				refused(t, name+", again", s, scrub, api.OK)
			}
		}
	}
}

// P7.3: a copy of another List is written again also if that List is valid.
func TestScrubAnotherList(t *testing.T) {
	l := Of(5, 2, text(500, 1))
	for _, o := range []List{
		Of(4, 2, text(500, 1)), Of(5, 1, text(500, 1)), Of(5, 2, text(500, 2)), Of(5, 2, text(500, 1)[:499]), Of(1, 1, ""),
	} {
		d := dev.New(Blocks)
		put(t, d, map[int]slot.Rec{66: copyRec(l), 67: copyRec(o)})
		s := opens(t, "another List", d, 0)
		ok(t, "Scrub", s.Scrub())
		contains(t, "another List", d.Crash(), map[int]slot.Rec{66: copyRec(l), 67: copyRec(l)})
	}
	for name, rec := range notCopies() {
		d := dev.New(Blocks)
		put(t, d, map[int]slot.Rec{66: rec, 67: copyRec(l)})
		s := opens(t, name, d, 0)
		ok(t, name, s.Scrub())
		contains(t, name, d.Crash(), map[int]slot.Rec{66: copyRec(l), 67: copyRec(l)})
	}
}

// P7.3: what a nil Store returns.
func TestNil(t *testing.T) {
	var s *Store
	lists(t, "nil", s, List{})
	hurts(t, "nil", s)
	reads(t, "nil", s, 0, "", api.ErrNone)
	if data, e := s.Data(); data != "" || e != api.ErrNone {
		t.Error(data, e)
	}
	if s.Put(1, 1, "") != api.ErrArg || s.Put(0, 0, text(25601, 1)) != api.ErrArg || s.Mend(0, "") != api.ErrArg || s.Scrub() != api.ErrArg {
		t.Error("no ErrArg")
	}
}

// The example of the chapter.
func TestExample(t *testing.T) {
	s := filled(t, 1, 1, text(900, 1))
	if l, _ := s.List(); len(l.Sums) != 3 {
		t.Error(l)
	}
	s.device.Flip(3, 0, 1)
	hurts(t, "the second one", s, 1)
}
