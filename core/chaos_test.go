package core

import (
	"flag"
	"slices"
	"testing"

	"orchard/api"
	"orchard/dev"
	"orchard/slot"
)

var (
	seeds = flag.Int64("seeds", 30, "how many random runs there are of each kind")
	from  = flag.Int64("from", 1, "the first seed")
)

// chaos is what may happen in a random run, with its weights.
type chaos struct {
	steps   int
	crash   int
	damage  int
	compact int
	propose int
	lose    int // per cent of the messages
	apart   int
	hits    int  // how many replicas may be damaged
	marks   bool // what is damaged is found by its mark
	heads   bool // heads may be damaged
	rash    bool // damage may leave no copy
	unknown bool // mostly entries are damaged together with their marks
}

// act does one random thing.
func (w *world) act(x chaos) {
	k := 1 + w.r.Intn(w.n)
	c := w.cores[k]
	if c.Err() != api.OK {
		if w.r.Intn(20) == 0 {
			w.devs[k] = w.devs[k].Crash(w.fates()...)
			if w.r.Intn(3) == 0 {
				w.devs[k].Fall(w.r.Intn(8))
			}
			w.open(k)
		}
		return
	}
	p := w.r.Intn(1000)
	switch {
	case p < x.crash/4:
		for k := 1; k <= w.n; k++ {
			w.crash(k, w.fates()...)
		}
	case p < x.crash/2:
		w.devs[k].Fall(w.r.Intn(8))
	case p < x.crash:
		w.crash(k, w.fates()...)
	case p < x.crash+x.damage:
		w.damage(k, x)
	case p < x.crash+x.damage+x.compact:
		w.compact(k)
	case p < x.crash+x.damage+x.compact+x.propose:
		for k := 1; k <= w.n; k++ {
			w.propose(k)
			w.check(k)
			w.collect(k)
		}
	case p < x.crash+x.damage+x.compact+x.propose+x.apart:
		for range 1 + w.r.Intn(2) {
			k := 1 + w.r.Intn(w.n)
			w.apart[k] = w.r.Intn(2) == 0
		}
	case p < 350:
		if w.r.Intn(4) > 0 || k < 3 {
			w.tick(k)
			w.collect(k)
		}
	case len(w.way) > 0:
		w.deliver(x)
	}
	if w.cores[k].Err() == api.OK && w.r.Intn(60) == 0 {
		w.texts(k)
	}
}

// deliver lets a random message be heard, or not, or twice.
func (w *world) deliver(x chaos) {
	i := w.r.Intn(len(w.way))
	if w.r.Intn(3) > 0 {
		i = min(i, w.r.Intn(5))
	}
	m := w.way[i]
	p := w.r.Intn(100)
	if p >= 10 {
		w.way = slices.Delete(w.way, i, i+1)
	}
	if p >= 100-x.lose || w.apart[m.From] || w.apart[m.To] {
		return
	}
	w.hear(m)
	w.collect(m.To)
	if len(w.way) > 300 {
		w.way = w.way[len(w.way)-300:]
	}
}

// compact stores a snapshot at a random replica.
func (w *world) compact(k int) {
	c := w.cores[k]
	if c.dead() || c.Commit() < c.First() {
		return
	}
	i := c.First() + w.r.Intn(c.Commit()-c.First()+1)
	if e := c.Compact(i, w.shot(i)); e != api.OK && e != api.ErrArg && e != c.Err() {
		w.fail("Compact: %d", e)
	}
	w.check(k)
}

// damage damages random blocks of a replica, if that leaves a copy of each committed entry.
func (w *world) damage(k int, x chaos) {
	for i := 1; i <= w.n; i++ {
		if w.cores[i].Err() != api.OK {
			return
		}
	}
	if w.cores[k].Role() == Lost || !w.hit[k] && len(w.hit) >= x.hits {
		return
	}
	for range 1 + w.r.Intn(4) {
		for _, spoil := range w.blow(k, x) {
			d := w.devs[k]
			w.devs[k] = d.Clone()
			spoil(w.devs[k])
			kept := w.kept()
			w.devs[k] = d
			if kept || x.rash {
				spoil(d)
				w.hit[k] = true
				w.void = w.void || !kept
			}
		}
	}
}

// blow returns what damages random blocks, often ones that matter.
func (w *world) blow(k int, x chaos) (spoils []func(*dev.Device)) {
	c := w.cores[k]
	i := c.First() + w.r.Intn(c.Last()-c.First()+4)
	if w.target >= c.First() && w.target <= c.Last()+1 && w.r.Intn(2) == 0 {
		i = w.target
	} else if w.r.Intn(3) == 0 {
		w.target = i
	}
	entry, mark := logBase+i%LogSize, logBase+LogSize+i%LogSize
	l, _ := c.shots.List()
	chunkBlock := shotBlock(w.r.Intn(2), 2+w.r.Intn(len(l.Sums)+1))
	list := []int{entry, chunkBlock}
	switch p := w.r.Intn(12); {
	case x.unknown && p < 10:
		list = nil
		for j := range 1 + w.r.Intn(6) {
			i := i - j
			list = append(list, logBase+(i+LogSize)%LogSize, logBase+LogSize+(i+LogSize)%LogSize)
			if w.r.Intn(2) == 0 {
				break
			}
		}
	case p < 4:
	case p < 7 && !x.marks:
		list = []int{entry, mark}
	case p < 8 && !x.marks:
		list = []int{mark}
	case p < 9:
		area := w.r.Intn(2)
		list = []int{shotBlock(area, 0), shotBlock(area, 1)}[:1+w.r.Intn(2)]
	case p < 10 && x.heads:
		list = []int{w.r.Intn(2)}
	case p < 11 && !x.marks:
		list = []int{w.r.Intn(Blocks-2) + 2}
	}
	for _, b := range list {
		at, bits := w.r.Intn(600), byte(1+w.r.Intn(255))
		if w.r.Intn(2) == 0 {
			spoils = append(spoils, func(d *dev.Device) { d.Lose(b) })
		} else {
			spoils = append(spoils, func(d *dev.Device) { d.Flip(b, at, bits) })
		}
	}
	return spoils
}

// calm ends all that disturbs: everything that is on its way arrives or not, all are up, and what is there was read.
func (w *world) calm() {
	for k := 1; k <= w.n; k++ {
		if w.cores[k].Err() != api.OK || w.devs[k].Down() || w.r.Intn(3) == 0 {
			w.crash(k, w.fates()...)
		} else {
			w.devs[k].Fall(1 << 40)
		}
		w.cores[k].Scrub()
		w.check(k)
	}
	clear(w.apart)
	if w.r.Intn(2) == 0 {
		w.way = nil
	}
}

// promised reports whether P15.5 promises anything.
func (w *world) promised() bool {
	for k := 1; k <= w.n; k++ {
		if c := w.cores[k]; c.Role() == Lost || c.Room() < 8 {
			return false
		}
	}
	return len(w.hit) <= (w.n-1)/2 || len(w.hit) < w.n && w.marksIntact()
}

// marksIntact reports whether all marks are intact, each entry whose mark some replica has reads as Good at some replica,
// and no damage has left a committed entry without a copy.
func (w *world) marksIntact() bool {
	for k := 1; k <= w.n; k++ {
		c := w.cores[k]
		if c.unknown() != 0 {
			return false
		}
		for i := c.First(); i <= c.Last(); i++ {
			rec, state, _ := slot.Read(w.devs[k], logBase+LogSize+i%LogSize)
			if state != slot.Good || rec.Index != i {
				return false
			}
			found := false
			for o := 1; o <= w.n; o++ {
				if rec, ok := w.block(o, i); ok && rec.Term == c.log.Term(i) {
					found = true
				}
			}
			if !found {
				return false
			}
		}
	}
	return w.kept()
}

// run lets random things happen, and then checks that all becomes well.
func run(t *testing.T, n int, seed int64, x chaos) (rounds int, promised, void bool) {
	w := newWorld(t, n, seed)
	for range 1 + w.r.Intn(3) {
		for range w.r.Intn(x.steps) {
			w.act(x)
		}
		w.calm()
		if w.void || !w.promised() {
			return 0, false, w.void
		}
		if x.damage == 0 {
			w.someAbsent()
		}
		if w.r.Intn(4) == 0 {
			w.uneven()
		}
		rounds = max(rounds, w.until(150, "level", w.level))
		w.stays()
	}
	return rounds, true, false
}

// uneven checks P15.5 with ticks that some replicas get much more often than others.
func (w *world) uneven() {
	var who []int
	for k := 1; k <= w.n; k++ {
		for range []int{1, 5, 30, 200}[w.r.Intn(4)] {
			who = append(who, k)
		}
	}
	for range 20000 {
		k := who[w.r.Intn(len(who))]
		w.tick(k)
		w.collect(k)
		w.drain()
		w.wishes()
		if w.level() {
			return
		}
	}
	w.fail("not level, with uneven ticks")
}

// someAbsent checks what P15.6 promises if some are absent.
func (w *world) someAbsent() {
	for range w.r.Intn((w.n-1)/2 + 1) {
		w.off[1+w.r.Intn(w.n)] = true
	}
	w.led(bound(w.n))
	w.stays()
	w.until(150, "level", w.level)
	clear(w.off)
}

// stays checks what P15.6 promises once there is a leader.
func (w *world) stays() {
	lead := w.leader()
	for range 3 {
		i, e := w.propose(lead)
		w.check(lead)
		w.collect(lead)
		w.round()
		if e == api.OK && w.cores[lead].Commit() < i || w.leader() != lead {
			w.fail("entry %d is not committed by %d", i, lead)
		}
	}
	at := w.cores[lead].Last()
	for range 6 {
		w.round()
	}
	for k := 1; k <= w.n; k++ {
		if !w.off[k] {
			w.texts(k)
		}
		if !w.off[k] && w.cores[k].Commit() < at {
			w.fail("%d: entry %d is not committed", k, at)
		}
	}
}

func TestChaos(t *testing.T) {
	kinds := map[string]chaos{
		"messages": {steps: 2000, compact: 3, propose: 30, lose: 20},
		"power":    {steps: 3000, crash: 6, compact: 3, propose: 30, lose: 10},
		"damage":   {steps: 3000, crash: 4, damage: 4, compact: 3, propose: 30, lose: 10, hits: 1, heads: true},
		"few":      {steps: 3000, crash: 4, damage: 6, compact: 3, propose: 30, lose: 10, hits: 1},
		"marks":    {steps: 2000, crash: 4, damage: 4, compact: 2, propose: 30, lose: 10, hits: 7, marks: true},
		"apart":    {steps: 4000, crash: 4, compact: 1, propose: 30, lose: 5, apart: 4},
		"unknown":  {steps: 4000, crash: 6, damage: 4, compact: 1, propose: 30, lose: 5, apart: 4, hits: 1, unknown: true},
		"all":      {steps: 3000, crash: 4, damage: 3, compact: 3, propose: 30, lose: 10, hits: 7, heads: true},
		"rash":     {steps: 3000, crash: 4, damage: 3, compact: 3, propose: 30, lose: 10, hits: 7, heads: true, rash: true},
	}
	for name, x := range kinds {
		for _, n := range []int{3, 5, 7} {
			t.Run(name, func(t *testing.T) {
				t.Parallel()
				x := x
				if x.hits == 1 {
					x.hits = (n - 1) / 2
				}
				most, count, voids := 0, 0, 0
				for seed := *from; seed < *from+*seeds; seed++ {
					rounds, ok, void := run(t, n, seed, x)
					if void {
						voids++
					}
					most = max(most, rounds)
					if ok {
						count++
					}
				}
				t.Logf("%s, %d replicas: at most %d rounds, in %d runs, %d void", name, n, most, count, voids)
			})
		}
	}
}
