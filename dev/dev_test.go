package dev

import (
	"math"
	"math/rand"
	"strings"
	"testing"

	"orchard/api"
)

// holds checks what is read of the blocks from 0 on.
func holds(t *testing.T, what string, d *Device, want ...string) {
	t.Helper()
	for i, s := range want {
		if got, e := d.Read(i); got != s || e != api.OK {
			t.Errorf("%s: block %d is %q, %d, want %q", what, i, got, e, s)
		}
	}
}

// refuses checks the error of reading a block.
func refuses(t *testing.T, what string, d *Device, block int, want api.Errno) {
	t.Helper()
	if got, e := d.Read(block); got != "" || e != want {
		t.Errorf("%s: block %d is %q, %d, want the error %d", what, block, got, e, want)
	}
}

// put writes the texts to the blocks from 0 on.
func put(t *testing.T, d *Device, list ...string) {
	t.Helper()
	for i, s := range list {
		if e := d.Write(i, s); e != api.OK {
			t.Fatalf("Write to block %d: %d", i, e)
		}
	}
}

// flush makes everything durable.
func flush(t *testing.T, d *Device) {
	t.Helper()
	if e := d.Flush(); e != api.OK {
		t.Fatalf("Flush: %d", e)
	}
}

// durable returns a device with these durable blocks.
func durable(t *testing.T, list ...string) *Device {
	t.Helper()
	d := New(len(list))
	put(t, d, list...)
	flush(t, d)
	return d
}

// The fates are numbered from 0.
func TestFates(t *testing.T) {
	if Lost != 0 || Kept != 1 || Torn != 2 {
		t.Error(Lost, Kept, Torn)
	}
}

// P3.1: New returns so many blocks, at least 0 and at most MaxBlocks, all of them empty.
func TestNew(t *testing.T) {
	for _, x := range []struct{ size, want int }{
		{0, 0}, {1, 1}, {7, 7}, {4095, 4095}, {4096, 4096}, {4097, 4096}, {math.MaxInt, 4096}, {-1, 0}, {math.MinInt, 0},
	} {
		d := New(x.size)
		if d.Size() != x.want || d.Down() {
			t.Errorf("New(%d): %d blocks, down %t", x.size, d.Size(), d.Down())
		}
		for i := range x.want {
			if s, e := d.Read(i); s != "" || e != api.OK {
				t.Fatalf("New(%d): block %d is %q, %d", x.size, i, s, e)
			}
		}
		refuses(t, "behind the last", d, x.want, api.ErrNone)
		if d.Write(x.want, "") != api.ErrNone || d.Flush() != api.OK {
			t.Errorf("New(%d): an operation", x.size)
		}
	}
}

// operations are calls of Write and Flush, with what they return while there is power.
func operations() []struct {
	call func(d *Device) api.Errno
	want api.Errno
} {
	return []struct {
		call func(d *Device) api.Errno
		want api.Errno
	}{
		{func(d *Device) api.Errno { return d.Write(0, "x") }, api.OK},
		{func(d *Device) api.Errno { return d.Flush() }, api.OK},
		{func(d *Device) api.Errno { return d.Write(-1, "x") }, api.ErrNone},
		{func(d *Device) api.Errno { return d.Write(0, strings.Repeat("x", 513)) }, api.ErrLong},
	}
}

// P3.1: Fall makes the power fail at the operation after the next turns operations, whatever these return.
func TestFall(t *testing.T) {
	list := operations()
	for _, turns := range []int{math.MinInt, -1, 0, 1, 2, 3, 4, 5, 9} {
		for first := range list {
			d := New(1)
			d.Fall(turns)
			for i := range max(turns, 0) {
				x := list[(first+i)%len(list)]
				if e := x.call(d); e != x.want || d.Down() {
					t.Errorf("Fall(%d): operation %d returns %d, down %t", turns, i, e, d.Down())
				}
			}
			if _, e := d.Read(0); e != api.OK {
				t.Errorf("Fall(%d): no power before it fails", turns)
			}
			for i := range len(list) + 1 {
				if e := list[(first+i)%len(list)].call(d); e != api.ErrDown || !d.Down() {
					t.Errorf("Fall(%d): operation %d without power returns %d, down %t", turns, i, e, d.Down())
				}
			}
		}
	}
}

// P3.1: only Write and Flush are operations.
func TestFallCountsOperations(t *testing.T) {
	d := durable(t, "abc", "def")
	d.Fall(1)
	for range 3 {
		d.Read(0)
		d.Read(9)
		d.Size()
		d.Down()
		d.Flip(0, 0, 1)
		d.Lose(1)
		d.Crash(Kept)
		d.Clone()
	}
	if d.Write(0, "x") != api.OK || d.Down() || d.Write(0, "y") != api.ErrDown || !d.Down() {
		t.Error("something else was counted")
	}
}

// P3.1: a later Fall replaces an earlier one, whether it is sooner or not.
func TestFallAgain(t *testing.T) {
	for _, x := range []struct{ one, done, two int }{
		{0, 0, 3}, {3, 0, 0}, {3, 2, 2}, {3, 3, 1}, {1, 1, -5}, {2, 1, math.MaxInt},
	} {
		d := New(1)
		d.Fall(x.one)
		for range x.done {
			flush(t, d)
		}
		d.Fall(x.two)
		for range min(max(x.two, 0), 20) {
			flush(t, d)
		}
		if x.two < math.MaxInt && d.Flush() != api.ErrDown {
			t.Errorf("%d, %d done, %d: still power", x.one, x.done, x.two)
		}
	}
}

// P3.1: Fall does not bring the power back.
func TestFallIsNoPower(t *testing.T) {
	d := durable(t, "abc")
	d.Fall(0)
	d.Flush()
	d.Fall(5)
	refuses(t, "Fall without power", d, 0, api.ErrDown)
	if !d.Down() || d.Write(0, "x") != api.ErrDown || d.Flush() != api.ErrDown {
		t.Error("Fall without power")
	}
}

// P3.1: without power nothing is changed, neither by the operation at which it fails nor later.
func TestWithoutPower(t *testing.T) {
	for _, fail := range operations() {
		d := durable(t, "abc", "def")
		put(t, d, "one", "two")
		d.Fall(0)
		if fail.call(d) != api.ErrDown {
			t.Error("it does not fail")
		}
		for block, want := range map[int]api.Errno{0: api.ErrDown, -1: api.ErrDown, 2: api.ErrDown} {
			refuses(t, "without power", d, block, want)
			if d.Write(block, "y") != want || d.Write(block, strings.Repeat("y", 513)) != want || d.Flush() != want {
				t.Errorf("operations on block %d without power", block)
			}
		}
		if d.Size() != 2 {
			t.Error("Size without power")
		}
		holds(t, "all Lost", d.Crash(), "abc", "def")
		holds(t, "all Kept", d.Crash(Kept, Kept, Kept, Kept, Kept), "one", "two")
	}
}

// P3.2: the block contains what was written last, also before it is durable.
func TestWrite(t *testing.T) {
	d := New(3)
	for _, s := range []string{"abc", "", "\x00", "\xff\xc3\x00z", "ä", strings.Repeat("y", 511), strings.Repeat("z", 512), "a"} {
		for _, then := range []func(){func() {}, func() { flush(t, d) }} {
			put(t, d, "left", s, "right")
			then()
			holds(t, "written", d, "left", s, "right")
		}
	}
	put(t, d, "1")
	put(t, d, "2")
	put(t, d, "3", "4")
	holds(t, "written again", d, "3", "4", "right")
	flush(t, d)
	flush(t, d)
	holds(t, "flushed", d, "3", "4", "right")
}

// P3.2: Write returns ErrNone, or else ErrLong, and then changes nothing.
func TestWriteRefused(t *testing.T) {
	d := durable(t, "abc", "def")
	put(t, d, "new")
	long := strings.Repeat("x", 513)
	for _, x := range []struct {
		block int
		data  string
		want  api.Errno
	}{
		{-1, "x", api.ErrNone}, {2, "x", api.ErrNone}, {math.MaxInt, "x", api.ErrNone}, {math.MinInt, "x", api.ErrNone},
		{-1, long, api.ErrNone}, {2, long, api.ErrNone}, {2, "", api.ErrNone},
		{0, long, api.ErrLong}, {1, long, api.ErrLong}, {1, strings.Repeat("x", 100000), api.ErrLong},
	} {
		if e := d.Write(x.block, x.data); e != x.want {
			t.Errorf("Write(%d, %d bytes) = %d, want %d", x.block, len(x.data), e, x.want)
		}
	}
	holds(t, "refused", d, "new", "def")
	holds(t, "refused, all Kept", d.Crash(Kept, Kept, Kept, Kept), "new", "def")
	d.Lose(1)
	d.Write(1, long)
	refuses(t, "refused, lost", d, 1, api.ErrBad)
}

// P3.2: a write that was refused is none of those that have fates.
func TestRefusedHasNoFate(t *testing.T) {
	d := durable(t, "abc", "def")
	d.Write(0, strings.Repeat("x", 513))
	d.Write(2, "x")
	put(t, d, "one")
	d.Write(-1, "x")
	if e := d.Write(1, "two"); e != api.OK {
		t.Fatal(e)
	}
	holds(t, "first", d.Crash(Kept), "one", "def")
	holds(t, "second", d.Crash(Lost, Kept), "abc", "two")
}

// P3.2: Read returns ErrNone for a block that does not exist, and ErrBad for one that is lost.
func TestReadRefused(t *testing.T) {
	d := durable(t, "abc", "def", "")
	d.Lose(1)
	d.Lose(2)
	for block, want := range map[int]api.Errno{
		-1: api.ErrNone, 3: api.ErrNone, math.MaxInt: api.ErrNone, math.MinInt: api.ErrNone, 1: api.ErrBad, 2: api.ErrBad,
	} {
		refuses(t, "Read", d, block, want)
	}
	holds(t, "the other one", d, "abc")
}

// P3.2: Flush makes everything that was written durable, the last write to each block.
func TestFlush(t *testing.T) {
	d := New(3)
	put(t, d, "a", "b", "c")
	put(t, d, "d", "e")
	put(t, d, "f")
	flush(t, d)
	holds(t, "durable", d.Crash(), "f", "e", "c")
	holds(t, "durable whatever the fates", d.Crash(Torn, Torn, Torn, Torn, Torn, Torn), "f", "e", "c")
	put(t, d, "later")
	holds(t, "not durable", d.Crash(), "f", "e", "c")
}

// P3.3: each write that was not durable has the effect of its fate.
func TestCrash(t *testing.T) {
	d := durable(t, "abcd", "efgh", "ijkl")
	for _, x := range []struct {
		block int
		data  string
	}{{1, "wxyz"}, {0, "12345"}, {1, "stuvwx"}} {
		d.Write(x.block, x.data)
	}
	for _, x := range []struct {
		fates []Fate
		want  []string
	}{
		{nil, []string{"abcd", "efgh", "ijkl"}},
		{[]Fate{Lost, Lost, Lost}, []string{"abcd", "efgh", "ijkl"}},
		{[]Fate{Kept}, []string{"abcd", "wxyz", "ijkl"}},
		{[]Fate{Torn}, []string{"abcd", "wx", "ijkl"}},
		{[]Fate{Lost, Kept}, []string{"12345", "efgh", "ijkl"}},
		{[]Fate{Lost, Torn}, []string{"12", "efgh", "ijkl"}},
		{[]Fate{Lost, Lost, Kept}, []string{"abcd", "stuvwx", "ijkl"}},
		{[]Fate{Lost, Lost, Torn}, []string{"abcd", "stu", "ijkl"}},
		{[]Fate{Kept, Kept, Kept}, []string{"12345", "stuvwx", "ijkl"}},
		{[]Fate{Kept, Lost, Torn}, []string{"abcd", "stu", "ijkl"}},
		{[]Fate{Torn, Lost, Kept}, []string{"abcd", "stuvwx", "ijkl"}},
		{[]Fate{Torn, Torn, Torn, Torn, Torn}, []string{"12", "stu", "ijkl"}},
		{[]Fate{Kept, Kept, Lost, Kept, Kept}, []string{"12345", "wxyz", "ijkl"}},
		{[]Fate{3, -1, 99}, []string{"abcd", "efgh", "ijkl"}},
		{[]Fate{Kept, math.MinInt, math.MaxInt}, []string{"abcd", "wxyz", "ijkl"}},
	} {
		fates := append([]Fate(nil), x.fates...)
		c := d.Crash(fates...)
		holds(t, "Crash", c, x.want...)
		if c.Size() != 3 || c.Down() {
			t.Errorf("%v: %d blocks, down %t", x.fates, c.Size(), c.Down())
		}
		for i := range fates {
			if fates[i] != x.fates[i] {
				t.Errorf("%v: the fates are changed", x.fates)
			}
		}
		holds(t, "the device itself", d, "12345", "stuvwx", "ijkl")
		holds(t, "a second Crash", c.Crash(Kept, Kept, Kept), x.want...)
	}
}

// P3.3: Torn leaves the first half of what was written, rounded down, and nothing of what was there.
func TestTorn(t *testing.T) {
	whole := strings.Repeat("0123456789abcdef", 32)
	for size := range len(whole) + 1 {
		d := durable(t, strings.Repeat("-", 512))
		d.Write(0, whole[:size])
		holds(t, "Torn", d.Crash(Torn), whole[:size/2])
	}
}

// P3.3: the first fate is that of the first write since the last Flush.
func TestFatesSinceFlush(t *testing.T) {
	d := New(2)
	put(t, d, "a", "b")
	flush(t, d)
	put(t, d, "c", "d")
	d.Fall(0)
	d.Flush()
	holds(t, "behind a Flush", d.Crash(Kept), "c", "b")
	c := d.Crash(Lost, Kept)
	put(t, c, "e", "f")
	holds(t, "behind a Crash", c.Crash(Kept), "e", "d")
	holds(t, "behind a Crash", c.Crash(Lost, Kept), "a", "f")
}

// P3.3: Crash returns power, and no failure is pending, whatever was.
func TestCrashReturnsPower(t *testing.T) {
	for _, turns := range []int{0, 1, 2} {
		for _, done := range []int{0, 1, 2, 3} {
			d := New(1)
			d.Fall(turns)
			for range done {
				d.Flush()
			}
			c := d.Crash()
			for range 10 {
				if c.Down() || c.Write(0, "x") != api.OK || c.Flush() != api.OK {
					t.Fatalf("Fall(%d), %d operations", turns, done)
				}
			}
			holds(t, "power", c, "x")
			if d.Down() != (done > turns) {
				t.Error("the device itself")
			}
		}
	}
}

// P3.3: what Crash returns is apart from the device.
func TestCrashIsApart(t *testing.T) {
	d := durable(t, "abc", "def", "ghi")
	c := d.Crash()
	put(t, c, "one")
	flush(t, c)
	c.Flip(1, 0, 1)
	c.Lose(2)
	holds(t, "the device", d, "abc", "def", "ghi")
	d.Flip(2, 0, 1)
	d.Lose(1)
	put(t, d, "two")
	holds(t, "what Crash returned", c, "one", "eef")
}

// P3.3: Flip inverts the bits of the byte at an index, as an unsigned number, modulo the length.
func TestFlip(t *testing.T) {
	for _, x := range []struct {
		data string
		at   int
		bits byte
		want string
	}{
		{"abc", 0, 1, "`bc"},
		{"abc", 1, 3, "aac"},
		{"abc", 2, 0xff, "ab\x9c"},
		{"abc", 3, 0x20, "Abc"},
		{"abc", 3000001, 0x20, "aBc"},
		{"abcde", -1, 0x20, "Abcde"},      // 2^64 - 1 is a multiple of 5
		{"abcdef", -1, 0x20, "abcDef"},    // 2^64 - 1 is 3 modulo 6
		{"abcdefg", -2, 0x20, "Abcdefg"},  // 2^64 - 2 is a multiple of 7
		{"abc", math.MaxInt, 0x20, "aBc"}, // 2^63 - 1 is 1 modulo 3
		{"abc", math.MinInt, 0x20, "abC"}, // 2^63 is 2 modulo 3
		{"abc", 1, 0, "abc"},
		{"\x00", 77, 0x80, "\x80"},
		{"", 0, 1, ""},
		{"", -1, 1, ""},
	} {
		d := durable(t, "left", x.data, "right")
		d.Flip(1, x.at, x.bits)
		holds(t, "Flip", d, "left", x.want, "right")
		holds(t, "Flip is durable", d.Crash(Torn, Torn, Torn), "left", x.want, "right")
		holds(t, "Flip is cloned", d.Clone(), "left", x.want, "right")
	}
}

// P3.3: what was flipped is not flipped again until it is written, unless no bits were given.
func TestFlipAgain(t *testing.T) {
	d := durable(t, "abc", "def")
	d.Flip(0, 0, 0)
	d.Flip(0, 0, 0x20)
	for range 3 {
		d.Flip(0, 0, 0x20)
		d.Flip(0, 1, 0x20)
		d.Flip(0, 1, 0)
	}
	holds(t, "again", d, "Abc", "def")
	flush(t, d)
	d.Flip(0, 2, 0x20)
	holds(t, "behind a Flush", d, "Abc", "def")
	for _, c := range []*Device{d.Crash(), d.Clone()} {
		c.Flip(0, 2, 0x20)
		c.Flip(1, 2, 0x20)
		holds(t, "another device", c, "Abc", "deF")
	}
	put(t, d, "Abc")
	d.Flip(0, 0, 0x20)
	holds(t, "what is not durable", d, "Abc")
	holds(t, "what is durable", d.Crash(), "Abc")
	flush(t, d)
	d.Flip(0, 0, 0x20)
	holds(t, "written", d, "abc", "def")
}

// P3.3: Flip changes what is durable, not what is not yet.
func TestFlipDurable(t *testing.T) {
	d := durable(t, "abc", "")
	put(t, d, "xyz", "uvw")
	d.Flip(0, 0, 0x20)
	d.Flip(1, 0, 0x20)
	holds(t, "not durable", d, "xyz", "uvw")
	lost, kept := d.Crash(), d.Crash(Kept, Kept)
	holds(t, "Lost", lost, "Abc", "")
	holds(t, "Kept", kept, "xyz", "uvw")
	lost.Flip(0, 1, 0x20)
	holds(t, "Lost, flipped before", lost, "Abc")
	kept.Flip(0, 1, 0x20)
	kept.Flip(1, 1, 0x20)
	holds(t, "Kept, not flipped before", kept, "xYz", "uVw")
	flush(t, d)
	d.Flip(0, 2, 0x20)
	holds(t, "flushed, not flipped before", d, "xyZ", "uvw")
}

// P3.3: what was torn is not flipped until it is written.
func TestFlipTorn(t *testing.T) {
	d := durable(t, "abcd", "efgh")
	put(t, d, "wxyz", "stuv")
	c := d.Crash(Torn)
	for _, x := range []*Device{c, c.Crash(), c.Clone()} {
		x.Flip(0, 0, 0x20)
		x.Flip(1, 0, 0x20)
		holds(t, "torn", x, "wx", "Efgh")
	}
	put(t, c, "1", "2345")
	torn := c.Crash(Torn, Torn)
	torn.Flip(0, 0, 1)
	torn.Flip(1, 0, 1)
	holds(t, "torn, flipped before", torn, "", "23")
	put(t, c, "wxyz")
	flush(t, c)
	c.Flip(0, 0, 0x20)
	holds(t, "written", c, "Wxyz")
}

// P3.3: a block is lost until it is written, whatever becomes of the write.
func TestLose(t *testing.T) {
	d := durable(t, "abc", "def", "")
	d.Lose(0)
	d.Lose(0)
	d.Lose(2)
	for _, x := range []*Device{d, d.Clone(), d.Crash(), d.Crash(Kept), d.Crash().Crash().Clone()} {
		refuses(t, "lost", x, 0, api.ErrBad)
		refuses(t, "lost", x, 2, api.ErrBad)
		flush(t, x)
		refuses(t, "lost, flushed", x, 0, api.ErrBad)
	}
	put(t, d, "new")
	holds(t, "written", d, "new", "def")
	holds(t, "Lost", d.Crash(), "abc", "def")
	holds(t, "Torn", d.Crash(Torn), "n", "def")
	holds(t, "Kept", d.Crash(Kept), "new", "def")
	refuses(t, "the other one", d, 2, api.ErrBad)
	flush(t, d)
	holds(t, "flushed", d, "new", "def")
	d.Lose(0)
	refuses(t, "lost again", d, 0, api.ErrBad)
	if d.Write(0, "") != api.OK {
		t.Error("Write of no bytes")
	}
	holds(t, "written", d, "", "def")
}

// P3.3: a block that is lost after it was written remains lost, whatever becomes of the write.
func TestLoseWritten(t *testing.T) {
	d := durable(t, "abc")
	put(t, d, "xyz")
	d.Lose(0)
	refuses(t, "lost", d, 0, api.ErrBad)
	for _, fate := range []Fate{Lost, Kept, Torn} {
		refuses(t, "Crash", d.Crash(fate), 0, api.ErrBad)
	}
	flush(t, d)
	refuses(t, "flushed", d, 0, api.ErrBad)
	d.Flip(0, 0, 1)
	refuses(t, "flipped", d, 0, api.ErrBad)
}

// P3.3: what is durable of a lost block is still there, and is flipped.
func TestFlipLost(t *testing.T) {
	d := durable(t, "abc")
	d.Lose(0)
	d.Flip(0, 0, 0x20)
	put(t, d, "xyz")
	holds(t, "Lost", d.Crash(), "Abc")
}

// P3.3: Flip and Lose have no effect for blocks that do not exist, and work without power.
func TestDamage(t *testing.T) {
	d := durable(t, "abc", "def")
	for _, block := range []int{-1, 2, math.MaxInt, math.MinInt} {
		d.Flip(block, 0, 1)
		d.Lose(block)
	}
	holds(t, "no such block", d, "abc", "def")
	empty := New(0)
	empty.Flip(0, 0, 1)
	empty.Lose(0)
	d.Fall(0)
	d.Flush()
	d.Flip(0, 0, 0x20)
	d.Lose(1)
	c := d.Crash()
	holds(t, "without power", c, "Abc")
	refuses(t, "without power", c, 1, api.ErrBad)
}

// P3.3: Clone copies everything: what is durable, what is not, what is lost, and the power.
func TestClone(t *testing.T) {
	d := durable(t, "abcd", "efgh", "ijkl")
	put(t, d, "1234", "5678")
	d.Lose(2)
	d.Fall(1)
	c := d.Clone()
	holds(t, "the copy", c, "1234", "5678")
	refuses(t, "the copy", c, 2, api.ErrBad)
	holds(t, "the copy, Crash", c.Crash(Torn), "12", "efgh")
	if c.Size() != 3 || c.Down() || c.Write(0, "x") != api.OK || c.Flush() != api.ErrDown || !c.Down() {
		t.Error("the copy's pending failure")
	}
	if !c.Clone().Down() || c.Clone().Flush() != api.ErrDown {
		t.Error("the copy of one without power")
	}
	holds(t, "that of one without power, Crash", c.Clone().Crash(Lost, Kept, Kept), "x", "5678")
	if d.Down() || d.Flush() != api.OK || d.Flush() != api.ErrDown {
		t.Error("the device's pending failure")
	}
}

// P3.3: neither the copy nor the device sees what becomes of the other one.
func TestCloneIsApart(t *testing.T) {
	d := durable(t, "abc", "def", "ghi")
	for _, s := range []string{"1", "2", "3"} {
		put(t, d, s)
	}
	c := d.Clone()
	put(t, d, "device")
	put(t, c, "copy")
	c.Flip(1, 0, 0x20)
	d.Lose(2)
	holds(t, "the device", d.Crash(Lost, Lost, Lost, Kept), "device", "def")
	holds(t, "the copy", c.Crash(Lost, Lost, Lost, Kept), "copy", "Def", "ghi")
	flush(t, c)
	holds(t, "the device is not flushed", d.Crash(), "abc", "def")
	put(t, d, "4")
	holds(t, "the copy is not written", c, "copy", "Def", "ghi")
}

// P3.3: a nil Device has no blocks and no power; its Crash has no blocks, and its Clone is nil.
func TestNil(t *testing.T) {
	var d *Device
	d.Fall(3)
	d.Flip(0, 0, 1)
	d.Lose(0)
	for _, block := range []int{-1, 0, 1} {
		refuses(t, "nil", d, block, api.ErrDown)
		if d.Write(block, "x") != api.ErrDown || d.Write(block, strings.Repeat("x", 513)) != api.ErrDown {
			t.Error("Write")
		}
	}
	if d.Size() != 0 || d.Flush() != api.ErrDown || !d.Down() || d.Clone() != nil {
		t.Error("nil")
	}
	for _, c := range []*Device{d.Crash(), d.Crash(Kept, Torn)} {
		if c == nil || c.Size() != 0 || c.Down() || c.Flush() != api.OK || c.Write(0, "x") != api.ErrNone {
			t.Error("Crash of nil")
		}
		refuses(t, "Crash of nil", c, 0, api.ErrNone)
	}
}

// model is the chapter by the letter: the writes since the last Flush are applied one by one, in order.
type model struct {
	durable       []string
	spoiled, lost []bool
	blocks        []int // of these writes
	data          []string
	left          int // operations before the power fails, or -1
	down          bool
}

func newModel(size int) *model {
	return &model{durable: make([]string, size), spoiled: make([]bool, size), lost: make([]bool, size), left: -1}
}

func (m *model) operate() bool {
	if m.left == 0 {
		m.down = true
	} else if m.left > 0 {
		m.left--
	}
	return !m.down
}

func (m *model) write(block int, data string) api.Errno {
	switch {
	case !m.operate():
		return api.ErrDown
	case block < 0 || block >= len(m.durable):
		return api.ErrNone
	case len(data) > 512:
		return api.ErrLong
	}
	m.lost[block] = false
	m.blocks, m.data = append(m.blocks, block), append(m.data, data)
	return api.OK
}

func (m *model) flush() api.Errno {
	if !m.operate() {
		return api.ErrDown
	}
	for i, block := range m.blocks {
		m.durable[block], m.spoiled[block] = m.data[i], false
	}
	m.blocks, m.data = nil, nil
	return api.OK
}

func (m *model) read(block int) (string, api.Errno) {
	switch {
	case m.down:
		return "", api.ErrDown
	case block < 0 || block >= len(m.durable):
		return "", api.ErrNone
	case m.lost[block]:
		return "", api.ErrBad
	}
	s := m.durable[block]
	for i, written := range m.blocks {
		if written == block {
			s = m.data[i]
		}
	}
	return s, api.OK
}

func (m *model) crash(fates []Fate) *model {
	out := newModel(len(m.durable))
	copy(out.durable, m.durable)
	copy(out.spoiled, m.spoiled)
	copy(out.lost, m.lost)
	for i, block := range m.blocks {
		if i < len(fates) && fates[i] == Kept {
			out.durable[block], out.spoiled[block] = m.data[i], false
		} else if i < len(fates) && fates[i] == Torn {
			out.durable[block], out.spoiled[block] = m.data[i][:len(m.data[i])/2], true
		}
	}
	return out
}

func (m *model) flip(block, at int, bits byte) {
	if block < 0 || block >= len(m.durable) || bits == 0 || m.durable[block] == "" || m.spoiled[block] {
		return
	}
	b := []byte(m.durable[block])
	b[uint64(at)%uint64(len(b))] ^= bits
	m.durable[block], m.spoiled[block] = string(b), true
}

// someFates are a few fates, valid or not.
func someFates(r *rand.Rand) []Fate {
	list := make([]Fate, r.Intn(9))
	for i := range list {
		list[i] = Fate(r.Intn(5) - 1)
	}
	return list
}

// someStep does the same to a device and to a model, and returns what they are then.
func someStep(t *testing.T, r *rand.Rand, d *Device, m *model) (*Device, *model) {
	block := r.Intn(6) - 1
	switch r.Intn(12) {
	case 0, 1, 2, 3:
		data := strings.Repeat(string(rune('a'+r.Intn(26))), []int{0, 1, 2, 5, 8, 511, 512, 513}[r.Intn(8)])
		if one, two := d.Write(block, data), m.write(block, data); one != two {
			t.Fatalf("Write(%d, %d bytes) = %d, want %d", block, len(data), one, two)
		}
	case 4, 5:
		if one, two := d.Flush(), m.flush(); one != two {
			t.Fatalf("Flush = %d, want %d", one, two)
		}
	case 6, 7:
		at, bits := int(r.Uint64()), byte(r.Intn(4))
		d.Flip(block, at, bits)
		m.flip(block, at, bits)
	case 8:
		d.Lose(block)
		if block >= 0 && block < len(m.lost) {
			m.lost[block] = true
		}
	case 9:
		turns := r.Intn(20) - 1
		d.Fall(turns)
		m.left = max(turns, 0)
	case 10:
		fates := someFates(r)
		return d.Crash(fates...), m.crash(fates)
	case 11:
		c := d.Clone()
		d.Write(0, "gone")
		d.Lose(1)
		return c, m
	}
	return d, m
}

// P3.1 to P3.3: a device does what the model does, whatever happens.
func TestModel(t *testing.T) {
	for seed := range 300 {
		r := rand.New(rand.NewSource(int64(seed)))
		d, m := New(4), newModel(4)
		for range 200 {
			d, m = someStep(t, r, d, m)
			for block := -1; block < 5; block++ {
				one, e := d.Read(block)
				two, f := m.read(block)
				if one != two || e != f {
					t.Fatalf("seed %d: block %d is %q, %d, want %q, %d", seed, block, one, e, two, f)
				}
			}
			if d.Down() != m.down {
				t.Fatalf("seed %d: down %t", seed, d.Down())
			}
		}
	}
}

// P3.2: many writes without a Flush are read as quickly as few.
func TestMany(t *testing.T) {
	d := New(api.MaxBlocks)
	for i := range 200000 {
		if d.Write(i%7, "x") != api.OK {
			t.Fatal(i)
		}
		if _, e := d.Read(4000); e != api.OK {
			t.Fatal(i)
		}
	}
	fates := make([]Fate, 200000)
	fates[6] = Kept
	holds(t, "Crash", d.Crash(fates...), "", "", "", "", "", "", "x")
}
