package plog

import (
	"slices"
	"strconv"
	"strings"
	"testing"

	"orchard/api"
	"orchard/dev"
)

// sure is an entry whose Append or Mend returned OK, or that Open returned. good: it must read as Good;
// put: it was put there. (One that only reads as Unknown may never have been there, and be Gone again.)
type sure struct {
	x         Entry
	good, put bool
}

// world is what must be true of a log.
type world struct {
	first  int
	sure   []sure
	maybe  []Entry // what was being appended, or cut, when the power failed: behind those that are sure, in order
	damage int     // how many more blocks may be damaged
	hit    bool    // one was
}

// last is the index of the last entry that is sure, least that of the last one that must be there.
func (w world) last() int { return w.first + len(w.sure) - 1 }
func (w world) least() int {
	for k, s := range w.sure {
		if !s.put {
			return w.first + k - 1
		}
	}
	return w.last()
}

// with returns the world without the entries from an index on, and with others.
func (w world) with(from int, list ...Entry) world {
	w.sure = slices.Clone(w.sure[:from-w.first])
	for _, x := range list {
		w.sure = append(w.sure, sure{x, true, true})
	}
	w.maybe = nil
	return w
}

// key tells worlds apart.
func (w world) key() string {
	b := []byte{}
	for _, n := range []int{w.first, w.damage, len(w.sure)} {
		b = append(strconv.AppendInt(b, int64(n), 10), ' ')
	}
	for _, s := range w.sure {
		b = strconv.AppendBool(strconv.AppendBool(append(b, s.x.Data...), s.good), s.put)
	}
	for _, x := range w.maybe {
		b = append(append(b, x.Data...), ' ')
	}
	return strconv.FormatBool(w.hit) + string(b)
}

// node is a device after a failure of the power, or a log that is open.
type node struct {
	d *dev.Device
	l *Log
	w world
}

// search tries everything that can happen to a log, until nothing new is found.
type search struct {
	t        *testing.T
	size     int
	greatest int // Index
	work     []node
	seen     map[string]bool
}

// hidden are the durable bytes of the blocks, also of those that are lost.
func hidden(d *dev.Device) []string {
	c := d.Clone()
	for b := range c.Size() {
		c.Write(b, "")
	}
	return contents(c.Crash())
}

// push remembers a node that was not there yet.
func (s *search) push(n node) {
	key := n.w.key()
	d := n.d
	if n.l != nil {
		key += memory(n.l)
		d = n.l.device
	}
	key += "|" + strings.Join(contents(d), "|")
	if n.w.hit {
		key += "|" + strings.Join(hidden(d), "|")
	}
	if !s.seen[key] {
		s.seen[key] = true
		s.work = append(s.work, n)
	}
}

// run goes on until there is nothing left to do.
func (s *search) run(n node) {
	s.seen = map[string]bool{}
	s.push(n)
	for len(s.work) > 0 && !s.t.Failed() {
		n := s.work[len(s.work)-1]
		s.work = s.work[:len(s.work)-1]
		s.spoil(n)
		if n.l == nil {
			s.open(n)
		} else {
			s.act(n)
		}
	}
}

// spoil damages one block, each in each way.
func (s *search) spoil(n node) {
	if n.w.damage == 0 {
		return
	}
	for b := range 2 * s.size {
		w := n.w
		w.damage, w.hit = w.damage-1, true
		w.sure = slices.Clone(w.sure)
		for k := range w.sure {
			if (w.first+k)%s.size == b {
				w.sure[k].good = false
			}
		}
		for _, harm := range []func(d *dev.Device){
			func(d *dev.Device) { d.Lose(b) },
			func(d *dev.Device) { d.Flip(b, 11, 8) },
		} {
			if n.l == nil {
				d := n.d.Clone()
				harm(d)
				s.push(node{d: d, w: w})
			} else {
				l := cloned(n.l)
				harm(l.device)
				s.push(node{l: l, w: w})
			}
		}
	}
}

// crash lets every fate befall the writes that were not durable.
func (s *search) crash(d *dev.Device, w world) {
	fates := make([]dev.Fate, s.size)
	var next func(k int)
	next = func(k int) {
		if k == len(fates) {
			s.push(node{d: d.Crash(fates...), w: w})
			return
		}
		for _, fates[k] = range []dev.Fate{dev.Lost, dev.Kept, dev.Torn} {
			next(k + 1)
		}
	}
	next(0)
}

// open opens the log, with the power failing at each operation, and at none.
func (s *search) open(n node) {
	for turns := 0; ; turns++ {
		d := n.d.Clone()
		d.Fall(turns)
		l, e := Open(d, 0, s.size, n.w.first)
		if l == nil {
			s.t.Fatalf("Open: %d, %s, %q", e, n.w.key(), contents(n.d))
		}
		if e == api.OK {
			s.push(node{l: steady(l), w: s.check(l, n.w)})
			return
		}
		s.crash(d, n.w)
	}
}

// steady returns a log on a device whose power is not about to fail; what was not durable is lost there.
func steady(l *Log) *Log {
	c := cloned(l)
	c.device = l.device.Crash()
	return c
}

// check compares a log with what must be true of it, and returns what is sure from then on.
func (s *search) check(l *Log, w world) world {
	s.t.Helper()
	fail := func(i int) {
		x, state := l.Read(i)
		s.t.Fatalf("entry %d is %v, %d: %s, %s, %q", i, x, state, w.key(), memory(l), contents(l.device))
	}
	if l.First() != w.first || l.Last() < w.least() || !w.hit && l.Last() > w.last()+len(w.maybe) {
		fail(l.Last())
	}
	out := w
	out.sure, out.maybe = nil, nil
	for i := l.First(); i <= l.Last(); i++ {
		known := sure{}
		if k := i - w.first; k < len(w.sure) {
			known = w.sure[k]
		} else if k -= len(w.sure); k < len(w.maybe) {
			known = sure{w.maybe[k], !w.hit, false}
		}
		x, state := l.Read(i)
		switch {
		case state == Good && x == known.x && l.Term(i) == x.Term:
			known.good, known.put = true, true
		case known.good || !w.hit:
			fail(i)
		case state == Hurt && x == (Entry{Index: i, Term: known.x.Term}) && l.Term(i) == known.x.Term:
		case state == Unknown && x == (Entry{Index: i}) && l.Term(i) == 0:
		default:
			fail(i)
		}
		out.sure = append(out.sure, known)
	}
	return out
}

// act does everything that can be done to a log that is open.
func (s *search) act(n node) {
	w := n.w
	next := w.last() + 1
	for count := 1; count <= n.l.Room() && next+count-1 <= s.greatest; count++ {
		for term := 1; term <= 2; term++ {
			list := row(next, next+count-1, term)
			failed := w
			failed.maybe = list
			s.do(n, func(l *Log) api.Errno { return l.Append(list...) }, w.with(next, list...), failed)
		}
	}
	for from := w.first; from <= w.last(); from++ {
		failed := w.with(from)
		for _, x := range w.sure[from-w.first:] {
			failed.maybe = append(failed.maybe, x.x)
		}
		s.do(n, func(l *Log) api.Errno { return l.Cut(from) }, w.with(from), failed)
	}
	for i := w.first; i <= w.last(); i++ {
		x := w.sure[i-w.first].x
		if x == (Entry{}) {
			x = entry(i, 1)
		}
		now, failed := w, w
		now.sure, failed.sure = slices.Clone(w.sure), slices.Clone(w.sure)
		now.sure[i-w.first] = sure{x, true, true}
		failed.sure[i-w.first].x = x
		s.do(n, func(l *Log) api.Errno { return l.Mend(x) }, now, failed)
	}
	for first := w.first + 1; first <= min(next, s.greatest+1); first++ {
		now := w
		now.first, now.sure = first, slices.Clone(w.sure[first-w.first:])
		s.do(n, func(l *Log) api.Errno { return l.Drop(first) }, now, w)
	}
	s.push(node{d: n.l.device.Crash(), w: w})
}

// do does one thing, with the power failing at each operation, and at none.
func (s *search) do(n node, what func(l *Log) api.Errno, now, failed world) {
	s.t.Helper()
	for turns := 0; ; turns++ {
		l := cloned(n.l)
		l.device.Fall(turns)
		e := what(l)
		if e == api.OK {
			s.push(node{l: steady(l), w: s.check(l, now)})
			return
		}
		if e != api.ErrDown || memory(l) != memory(n.l) {
			s.t.Fatalf("%d, %s, was %s: %s, %q", e, memory(l), memory(n.l), n.w.key(), contents(n.l.device))
		}
		s.crash(l.device, failed)
	}
}

// P6.5: whenever the power fails, time and again, all that was returned as OK is Good, and after it is,
// possibly, what was being appended or cut; with damage nothing reads as Good that is something else,
// and nothing as Gone that was put.
func TestPower(t *testing.T) {
	for _, x := range []struct{ size, greatest, damage, least int }{
		{1, 4, 0, 100}, {2, 5, 0, 1000}, {3, 4, 0, 1000}, {1, 3, 2, 1000}, {2, 3, 1, 1000},
	} {
		s := &search{t: t, size: x.size, greatest: x.greatest}
		s.run(node{d: dev.New(2 * x.size), w: world{first: 1, damage: x.damage}})
		if len(s.seen) < x.least {
			t.Error("too little was tried:", x, len(s.seen))
		}
	}
}
