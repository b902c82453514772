package chunk

import (
	"slices"
	"strconv"
	"strings"
	"testing"

	"orchard/api"
	"orchard/dev"
	"orchard/slot"
)

// snap returns the term and the bytes of the snapshot with an Index: of two chunks, of one, or of none.
func snap(index int) (int, string) {
	return index + 10, text([]int{0, 401, 300}[index%3], index)
}

// world is what must be true of a store.
type world struct {
	sure   int  // the Index of the List that was put, or was found when the store was opened; 0: none
	area   int  // where that is
	copies int  // how many of its copies are intact, at least
	maybe  int  // the Index of the List that was being put when the power failed; 0: none
	damage int  // how many more blocks may be damaged
	hit    int  // the bits of the places that were damaged and not written since
	void   bool // damage has left no copy of a List that was sure
}

// places are the blocks that the search writes: for each area two copies and two chunks.
func places() []int { return []int{0, 1, 2, 3, 66, 67, 68, 69} }

// bit is that of the n-th place of an area.
func bit(area, n int) int { return 1 << (area*4 + n) }

// node is a device after a failure of the power, or a store that is open.
type node struct {
	d *dev.Device
	s *Store
	w world
}

// search tries everything that can happen to a store, until nothing new is found.
type search struct {
	t        *testing.T
	greatest int // Index
	work     []node
	seen     map[string]bool
}

// state tells nodes apart.
func state(n node) string {
	var b strings.Builder
	d := n.d
	if n.s != nil {
		d = n.s.device
		b.WriteString(strconv.Itoa(n.s.list.Index) + "," + strconv.Itoa(n.s.area))
	}
	for _, x := range []int{n.w.sure, n.w.area, n.w.copies, n.w.maybe, n.w.damage, n.w.hit} {
		b.WriteString(" " + strconv.Itoa(x))
	}
	b.WriteString(strconv.FormatBool(n.w.void))
	hidden := d
	if n.w.hit != 0 {
		hidden = durable(d)
	}
	for _, p := range places() {
		_, e := d.Read(p)
		s, _ := hidden.Read(p)
		b.WriteString(strconv.Itoa(int(e)) + s + "|")
	}
	return b.String()
}

// durable shows also what the blocks contain that are lost: a write that is Lost would show it again.
func durable(d *dev.Device) *dev.Device {
	c := d.Clone()
	for _, p := range places() {
		c.Write(p, "")
	}
	return c.Crash()
}

// push remembers a node that was not there yet, and returns what tells it apart.
func (s *search) push(n node) string {
	key := state(n)
	if !s.seen[key] {
		s.seen[key] = true
		s.work = append(s.work, n)
	}
	return key
}

// run goes on until there is nothing left to do.
func (s *search) run(n node) {
	s.seen = map[string]bool{}
	s.push(n)
	for len(s.work) > 0 && !s.t.Failed() {
		n := s.work[len(s.work)-1]
		s.work = s.work[:len(s.work)-1]
		s.spoil(n)
		if n.s == nil {
			x := opens(s.t, "opened", n.d, 0)
			s.push(node{s: x, w: s.check(x, n.w)})
		} else {
			s.act(n)
		}
	}
}

// spoil damages one block, each in each way. A block of the area without the List is only flipped: what a
// lost one contained can be read again, and then it is the List of a Put in progress from before the damage.
func (s *search) spoil(n node) {
	if n.w.damage == 0 {
		return
	}
	for i, b := range places() {
		w := n.w
		w.damage, w.hit = w.damage-1, w.hit|1<<i
		if w.sure != 0 && w.area == i/4 && i%4 < 2 {
			w.copies--
			w.void = w.void || w.copies == 0
		}
		s.harm(n, w, func(d *dev.Device) { d.Flip(b, 25, 8) })
		if w.sure != 0 && w.area == i/4 {
			s.harm(n, w, func(d *dev.Device) { d.Lose(b) })
		}
	}
}

// harm goes on with a device that is damaged.
func (s *search) harm(n node, w world, how func(d *dev.Device)) {
	if n.s != nil {
		x := cloned(n.s)
		how(x.device)
		s.push(node{s: x, w: w})
		return
	}
	d := n.d.Clone()
	how(d)
	s.push(node{d: d, w: w})
}

// check compares a store with what must be true of it, and returns what is sure from then on.
func (s *search) check(x *Store, w world) world {
	s.t.Helper()
	l, is := x.List()
	term, data := snap(l.Index)
	if is && !l.Same(Of(l.Index, term, data)) || !w.void && l.Index != w.sure && l.Index != w.maybe {
		s.t.Fatalf("the List is %v: %v", l, w)
	}
	for k, c := range Cut(data) {
		got, e := x.Chunk(k)
		damaged := w.void || w.hit&bit(x.area, 2+k) != 0
		if is && (e != api.OK || got != c) && (e != api.ErrBad || got != "" || !damaged) {
			s.t.Fatalf("chunk %d of %d is of %d bytes, %d: %v", k, l.Index, len(got), e, w)
		}
	}
	if l.Index != w.sure {
		w.sure, w.area, w.copies = l.Index, x.area, 1
	}
	w.maybe = 0
	return w
}

// act does everything that can be done to a store that is open.
func (s *search) act(n node) {
	w := n.w
	other := 0
	if n.s.list.Index != 0 {
		other = 1 - n.s.area
	}
	for i := n.s.list.Index + 1; i <= s.greatest; i++ {
		term, data := snap(i)
		now, failed := w, w
		now.sure, now.area, now.copies = i, other, 2
		now.hit &^= bit(other, 0) | bit(other, 1) | bit(other, 2) | bit(other, 3)
		failed.maybe = i
		s.do(n, func(x *Store) api.Errno { return x.Put(i, term, data) }, now, failed)
	}
	_, data := snap(n.s.list.Index)
	for k, c := range Cut(data) {
		if n.s.has(k) {
			now := w
			now.hit &^= bit(n.s.area, 2+k)
			s.do(n, func(x *Store) api.Errno { return x.Mend(k, c) }, now, w)
		}
	}
	now := w
	if w.sure != 0 {
		now.copies = 2
		now.hit &^= bit(w.area, 0) | bit(w.area, 1)
	}
	s.do(n, func(x *Store) api.Errno { return x.Scrub() }, now, w)
	s.push(node{d: n.s.device.Crash(), w: w})
}

// do does one thing, with the power failing at each operation, and at none.
func (s *search) do(n node, what func(x *Store) api.Errno, now, failed world) {
	s.t.Helper()
	for turns := 0; ; turns++ {
		x := cloned(n.s)
		x.device.Fall(turns)
		e := what(x)
		if e == api.OK {
			x.device = x.device.Crash()
			s.push(node{s: x, w: s.check(x, now)})
			return
		}
		if e != api.ErrDown || !x.list.Same(n.s.list) || x.area != n.s.area {
			s.t.Fatalf("%d, %v: %v", e, x.list, n.w)
		}
		s.crash(x.device, failed)
	}
}

// crash lets every fate befall the writes that were not durable: at most two are.
func (s *search) crash(d *dev.Device, w world) {
	push := func(fates ...dev.Fate) string { return s.push(node{d: d.Crash(fates...), w: w}) }
	lost := push()
	if push(dev.Kept) == lost && push(dev.Torn) == lost {
		return // there was no write
	}
	if push(dev.Lost, dev.Kept) == lost && push(dev.Lost, dev.Torn) == lost {
		push(dev.Torn)
		return // there was one
	}
	for _, one := range []dev.Fate{dev.Lost, dev.Kept, dev.Torn} {
		for _, two := range []dev.Fate{dev.Kept, dev.Torn} {
			push(one, two)
		}
		push(one)
	}
}

// P7.4: whenever the power fails, time and again, Open finds the List of the last Put that returned OK, or that of
// the Put in progress, with all chunks; with damage no chunk is another one, and one intact copy of the List is enough.
func TestPower(t *testing.T) {
	for _, x := range []struct{ greatest, damage, least int }{
		{3, 0, 1000}, {2, 1, 1000}, {1, 2, 1000},
	} {
		s := &search{t: t, greatest: x.greatest}
		s.run(node{d: dev.New(Blocks), w: world{damage: x.damage}})
		if len(s.seen) < x.least {
			t.Error("too little was tried:", x, len(s.seen))
		}
	}
}

// fall lets the power fail in a Put, and returns the device after that.
func fall(t *testing.T, s *Store, turns int, put func(s *Store) api.Errno, fates ...dev.Fate) *dev.Device {
	t.Helper()
	s.device.Fall(turns)
	if e := put(s); e != api.ErrDown {
		t.Fatalf("after %d operations: %d", turns, e)
	}
	return s.device.Crash(fates...)
}

// P7.4: a Put of the greatest snapshot, over another one of that size, fails at each operation.
func TestPowerOfAGreatPut(t *testing.T) {
	one, two, three := text(25600, 1), text(25600, 2), text(25600, 3)
	for turns := range MaxChunks + 5 {
		for _, fate := range []dev.Fate{dev.Lost, dev.Kept, dev.Torn} {
			s := filled(t, 1, 1, one)
			ok(t, "Put", s.Put(2, 1, two))
			put := func(s *Store) api.Errno { return s.Put(3, 1, three) }
			d := fall(t, s, turns, put, slices.Repeat([]dev.Fate{fate}, MaxChunks)...)
			s = opens(t, "opened", d, 0)
			if turns > MaxChunks+2 || turns == MaxChunks+2 && fate == dev.Kept {
				holds(t, "the one in progress", s, 3, 1, three)
			} else {
				holds(t, "the last one", s, 2, 1, two)
			}
		}
	}
}

// P7.4: one intact copy of a List is enough, and stays that while Scrub repairs the other one.
func TestDamagedCopy(t *testing.T) {
	one, two := text(900, 1), text(500, 2)
	for name := range spoilers() {
		for n := range 2 {
			for turns := range 4 {
				for _, fate := range []dev.Fate{dev.Lost, dev.Kept, dev.Torn} {
					s := filled(t, 5, 1, one)
					ok(t, "Put", s.Put(9, 2, two))
					was := cloned(s)
					spoil(s.device, name, 66+n)
					d := fall(t, s, turns, func(s *Store) api.Errno { return s.Scrub() }, fate)
					r, _, _ := slot.Read(d, 67-n)
					other, _, _ := slot.Read(was.device, 67-n)
					if turns < 2 && r != other {
						t.Errorf("%s: the intact copy was written first", name)
					}
					if name != "of another Term" && name != "with another byte" {
						holds(t, name, opens(t, name, d, 0), 9, 2, two)
					}
				}
			}
		}
	}
}

// P7.4: what a lost block contained can be read again when a write to it is Lost. If that is a List from
// before the damage whose chunks were written over, they read as damaged, and a Put goes on from there.
func TestLostCopyReadAgain(t *testing.T) {
	one, two, three := text(900, 1), text(800, 2), text(500, 3)
	s := filled(t, 5, 1, one)
	d := fall(t, s, 5, func(s *Store) api.Errno { return s.Put(9, 2, two) })
	holds(t, "the one in progress", opens(t, "in progress", d, 0), 9, 2, two)
	d.Lose(66)
	s = opens(t, "lost", d, 0)
	holds(t, "lost", s, 5, 1, one)
	d = fall(t, s, 4, func(s *Store) api.Errno { return s.Put(10, 3, three) })
	s = opens(t, "read again", d, 0)
	lists(t, "read again", s, Of(9, 2, two))
	hurts(t, "read again", s, 0, 1)
	ok(t, "Put", s.Put(11, 3, three))
	holds(t, "Put", opens(t, "Put", d.Crash(), 0), 11, 3, three)
}
