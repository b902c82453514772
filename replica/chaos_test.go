package replica

import (
	"flag"
	"fmt"
	"slices"
	"strings"
	"testing"

	"orchard/api"
	"orchard/chunk"
	"orchard/core"
	"orchard/dev"
	"orchard/op"
	"orchard/plog"
	"orchard/slot"
)

var (
	seeds = flag.Int64("seeds", 12, "how many random runs there are of each kind")
	from  = flag.Int64("from", 1, "the first seed")
)

// chaos is what may happen in a random run, with its weights.
type chaos struct {
	steps   int
	crash   int
	damage  int
	lose    int // per cent of the messages
	apart   int
	hits    int  // how many replicas may be damaged
	marks   bool // what is damaged is found by its mark
	clients int
	long    bool // the data of nodes are as long as they may be, and there are many
}

// act does one random thing.
func (w *world) act(x chaos) {
	w.t.Helper()
	k := 1 + w.r.Intn(w.n)
	if w.reps[k].Err() != api.OK {
		if w.r.Intn(20) == 0 {
			w.devs[k] = w.devs[k].Crash(w.fates()...)
			if w.r.Intn(3) == 0 {
				w.devs[k].Fall(w.r.Intn(8))
			}
			w.open(k)
		}
		return
	}
	p := w.r.Intn(1000)
	switch {
	case p < x.crash/4:
		for k := 1; k <= w.n; k++ {
			w.crash(k, w.fates()...)
		}
	case p < x.crash/2:
		w.devs[k].Fall(w.r.Intn(8))
	case p < x.crash:
		w.crash(k, w.fates()...)
	case p < x.crash+x.damage:
		w.damage(k, x)
	case p < x.crash+x.damage+x.apart:
		k := 1 + w.r.Intn(w.n)
		w.apart[k] = w.r.Intn(2) == 0
	case p < x.crash+x.damage+x.apart+3:
		w.reps[k].Scrub()
		w.check(k)
	case p < 250:
		w.client(k)
	case p < 450:
		if w.r.Intn(4) > 0 || k < 3 {
			w.tick(k)
			w.collect(k)
		}
	case len(w.way) > 0:
		w.deliver(x)
	}
}

// deliver lets a random message be heard, or not, or twice.
func (w *world) deliver(x chaos) {
	w.t.Helper()
	i := w.r.Intn(len(w.way))
	if w.r.Intn(3) > 0 {
		i = min(i, w.r.Intn(5))
	}
	m := w.way[i]
	p := w.r.Intn(100)
	if p >= 10 {
		w.way = slices.Delete(w.way, i, i+1)
	}
	if p >= 100-x.lose || w.apart[m.From] || w.apart[m.To] {
		return
	}
	w.hear(m)
	w.collect(m.To)
	if len(w.way) > 300 {
		w.way = w.way[len(w.way)-300:]
	}
}

// client lets a random client ask a replica.
func (w *world) client(k int) {
	w.t.Helper()
	if len(w.clients) == 0 {
		return
	}
	c := w.clients[w.r.Intn(len(w.clients))]
	if c.gone {
		return
	}
	if w.r.Intn(4) == 0 {
		w.hears(c, w.get(k, c.id, w.path(), c.seen))
		return
	}
	if !c.busy {
		w.call(c)
	}
	w.tries(c, k)
}

// path returns a random one, or what is none.
func (w *world) path() string {
	return []string{"/", "/a", "/b", "/a/c", "/a/d", "/n0000000000", "/n0000000001", "", "a", "/a/"}[w.r.Intn(10)]
}

// call lets a client begin a new command.
func (w *world) call(c *client) {
	c.busy, c.ahead = true, w.ahead
	if !c.open {
		c.cmd, c.noted = open(c.id), 0
		return
	}
	c.req++
	c.cmd = op.Cmd{Kind: op.Update, Session: c.id, Req: c.req, Noted: c.noted}
	switch w.r.Intn(20) {
	case 0:
		c.cmd.Kind = op.Close
	case 1:
		c.cmd.Kind = op.Sync
	case 2, 3, 4:
		c.cmd.Kind, c.cmd.Path, c.cmd.Kids, c.cmd.Once = op.Watch, w.path(), w.r.Intn(2) == 0, w.r.Intn(3) == 0
	case 5:
		c.cmd.Noted = 0
	default:
		for range w.r.Intn(4) {
			c.cmd.Ops = append(c.cmd.Ops, w.operation(c))
		}
	}
}

// operation returns a random one of a client.
func (w *world) operation(c *client) op.Op {
	o := op.Op{
		Does: op.Does(1 + w.r.Intn(4)), Path: w.path(), Data: fmt.Sprint(c.id, " ", c.req),
		Version: w.r.Intn(4) - 1, Serial: w.r.Intn(8) == 0, Own: w.r.Intn(3) == 0,
	}
	if w.long && w.r.Intn(3) > 0 {
		o = op.Op{
			Does: op.Create, Path: "/xxxxxxxxxx", Data: strings.Repeat(fmt.Sprint(c.req%10), api.MaxData),
			Version: -1, Serial: true,
		}
	}
	return o
}

// tries lets a client ask a replica for the result of its command.
func (w *world) tries(c *client, k int) {
	w.t.Helper()
	a := w.do(k, c.cmd, c.seen)
	w.hears(c, a)
	if a.E == api.ErrUnavail || a.E == api.ErrLeader {
		return
	}
	c.busy = false
	switch {
	case a.E == api.ErrSession || c.cmd.Kind == op.Close && a.E == api.OK:
		c.open = false
	case a.E != api.OK:
		w.fail("%d is told %v for %v", c.id, a, c.cmd)
	case c.cmd.Kind == op.Open:
		c.open = true
	case a.Result.When <= c.ahead:
		w.fail("%v was called when %d had been told, and is executed at %d", c.cmd, c.ahead, a.Result.When)
	}
	w.ahead = max(w.ahead, a.Result.When)
}

// hears lets a client take what each answer tells.
func (w *world) hears(c *client, a Reply) {
	w.t.Helper()
	if a.E == api.ErrUnavail {
		return
	}
	if a.At < c.seen {
		w.fail("%d goes back from %d to %d", c.id, c.seen, a.At)
	}
	c.seen = a.At
	for _, e := range a.Events {
		if e.No > c.noted {
			if e.No != c.noted+1 && c.open {
				w.fail("%d misses event %d", c.id, c.noted+1)
			}
			c.noted = e.No
		}
	}
}

// damage damages random blocks of a replica, if that leaves a copy of each committed entry.
func (w *world) damage(k int, x chaos) {
	for i := 1; i <= w.n; i++ {
		if w.reps[i].Err() != api.OK {
			return
		}
	}
	if w.reps[k].Role() == core.Lost || !w.hit[k] && len(w.hit) >= x.hits {
		return
	}
	for range 1 + w.r.Intn(4) {
		for _, spoil := range w.blow(k, x) {
			d := w.devs[k]
			w.devs[k] = d.Clone()
			spoil(w.devs[k])
			kept := w.kept()
			w.devs[k] = d
			if kept {
				spoil(d)
				w.hit[k] = true
			}
		}
	}
}

// blow returns what damages random blocks, often ones that matter.
func (w *world) blow(k int, x chaos) (spoils []func(*dev.Device)) {
	r := w.reps[k]
	i := r.First() + w.r.Intn(r.Last()-r.First()+4)
	if w.target >= r.First() && w.target <= r.Last()+1 && w.r.Intn(2) == 0 {
		i = w.target
	} else if w.r.Intn(3) == 0 {
		w.target = i
	}
	entry, mark := logBase+i%core.LogSize, logBase+core.LogSize+i%core.LogSize
	area := shotBase + w.r.Intn(2)*(2+chunk.MaxChunks)
	list := []int{entry, area + 2 + w.r.Intn(4)}
	switch p := w.r.Intn(12); {
	case p < 4:
	case p < 7 && !x.marks:
		list = []int{entry, mark}
	case p < 8 && !x.marks:
		list = []int{mark}
	case p < 10:
		list = []int{area, area + 1}[:1+w.r.Intn(2)]
	case p < 11 && !x.marks:
		list = []int{w.r.Intn(core.Blocks-2) + 2}
	}
	for _, b := range list {
		at, bits := w.r.Intn(600), byte(1+w.r.Intn(255))
		if w.r.Intn(2) == 0 {
			spoils = append(spoils, func(d *dev.Device) { d.Lose(b) })
		} else {
			spoils = append(spoils, func(d *dev.Device) { d.Flip(b, at, bits) })
		}
	}
	return spoils
}

// calm ends all that disturbs: everything that is on its way arrives or not, all are up, and what is there was read.
func (w *world) calm() {
	w.t.Helper()
	for k := 1; k <= w.n; k++ {
		if w.reps[k].Err() != api.OK || w.devs[k].Down() || w.r.Intn(3) == 0 {
			w.crash(k, w.fates()...)
		} else {
			w.devs[k].Fall(1 << 40)
		}
		w.reps[k].Scrub()
		w.check(k)
	}
	clear(w.apart)
	if w.r.Intn(2) == 0 {
		w.way = nil
	}
}

// promised reports whether P15.5 promises anything.
func (w *world) promised() bool {
	for k := 1; k <= w.n; k++ {
		if r := w.reps[k]; r.Role() == core.Lost || r.Room() < 8 {
			return false
		}
	}
	return len(w.hit) <= (w.n-1)/2 || len(w.hit) < w.n && w.marksIntact()
}

// marksIntact reports whether all marks are intact, each entry whose mark some replica has reads as Good at some replica,
// and each committed entry has a copy.
func (w *world) marksIntact() bool {
	for k := 1; k <= w.n; k++ {
		for i := w.reps[k].First(); i <= w.reps[k].Last(); i++ {
			mark, is, _ := slot.Read(w.devs[k], logBase+core.LogSize+i%core.LogSize)
			if is != slot.Good || mark.Index != i {
				return false
			}
			found := false
			for o := 1; o <= w.n; o++ {
				rec, ok := w.block(o, i)
				found = found || ok && rec.Term == mark.Term
			}
			if _, is := w.reps[k].Entry(i); is == plog.Unknown || !found {
				return false
			}
		}
	}
	return w.kept()
}

// busy tries the commands of all clients that are busy at each replica, and reports whether there is still one.
func (w *world) busy() bool {
	w.t.Helper()
	busy := false
	for _, c := range w.clients {
		for k := 1; k <= w.n && c.busy && !c.gone; k++ {
			if !w.off[k] {
				w.tries(c, k)
			}
		}
		busy = busy || c.busy && !c.gone
	}
	return busy
}

// uneven lets some replicas be ticked much more often than others, until all is well.
func (w *world) uneven() {
	w.t.Helper()
	var who []int
	for k := 1; k <= w.n; k++ {
		for range []int{1, 5, 30, 200}[w.r.Intn(4)] {
			who = append(who, k)
		}
	}
	for range 20000 {
		k := who[w.r.Intn(len(who))]
		w.tick(k)
		w.collect(k)
		w.drain()
		w.busy()
		w.drain()
		if w.well() {
			return
		}
	}
	w.fail("not well, with uneven ticks")
}

// settle checks P16.4, and returns within how many rounds all is well.
func (w *world) settle() int {
	w.t.Helper()
	rounds, done := 0, false
	for ; !done; rounds++ {
		if rounds > 150 {
			w.fail("not well within 150 rounds")
		}
		w.busy()
		done = w.well()
		w.round()
	}
	w.until(10, "answered", func() bool { return !w.busy() })
	for range 2 {
		for _, c := range w.clients {
			if !c.gone {
				w.call(c)
			}
		}
		w.until(10, "answered", func() bool { return !w.busy() })
	}
	w.rounds(80)
	w.until(6, "level", w.level)
	w.once()
	return rounds
}

// once checks that each request was executed at most once.
func (w *world) once() {
	w.t.Helper()
	at := map[string]int{}
	for i, r := range w.results {
		c, _ := op.Read(w.texts[i])
		if c.Kind < op.Update || r.When != i || r.E == api.ErrSession || r.E == api.ErrOld {
			continue
		}
		if at[w.texts[i]] != 0 {
			w.fail("%v is executed at %d and %d", c, at[w.texts[i]], i)
		}
		at[w.texts[i]] = i
	}
}

// run lets random things happen, and then checks that all becomes well.
func run(t *testing.T, n int, seed int64, x chaos) (int, bool) {
	w := newWorld(t, n, seed)
	w.lazy, w.long = seed%2 == 0, x.long
	for id := range x.clients {
		w.clients = append(w.clients, &client{id: id + 1})
	}
	rounds := 0
	for range 1 + w.r.Intn(3) {
		for range w.r.Intn(x.steps) {
			w.act(x)
		}
		for _, c := range w.clients {
			c.gone = w.r.Intn(10) == 0
		}
		w.calm()
		if !w.promised() {
			return rounds, false
		}
		if x.damage == 0 && w.r.Intn(2) == 0 {
			for range w.r.Intn((n-1)/2 + 1) {
				w.off[1+w.r.Intn(n)] = true
			}
			rounds = max(rounds, w.settle())
			clear(w.off)
		}
		if w.r.Intn(4) == 0 {
			w.uneven()
		}
		rounds = max(rounds, w.settle())
	}
	return rounds, true
}

// P16.1, P16.3, P16.4 and layer 15's promises, whatever happens.
func TestChaos(t *testing.T) {
	kinds := map[string]chaos{
		"messages": {steps: 3000, lose: 20, apart: 3, clients: 4},
		"quiet":    {steps: 5000, lose: 2, clients: 16},
		"power":    {steps: 3000, crash: 20, lose: 10, apart: 3, clients: 4},
		"damage":   {steps: 3000, crash: 8, damage: 10, lose: 10, apart: 3, hits: 1, clients: 4},
		"long":     {steps: 4000, crash: 5, damage: 5, lose: 5, hits: 1, clients: 8, long: true},
		"marks":    {steps: 3000, crash: 8, damage: 10, lose: 10, apart: 3, hits: 9, marks: true, clients: 4},
	}
	for name, x := range kinds {
		for _, n := range []int{3, 5, 7} {
			t.Run(fmt.Sprint(name, n), func(t *testing.T) {
				t.Parallel()
				x := x
				if x.hits == 1 {
					x.hits = (n - 1) / 2
				} else if x.hits > 1 {
					x.hits = n - 1
				}
				worst, count := 0, int64(0)
				for seed := *from; seed < *from+*seeds; seed++ {
					rounds, promised := run(t, n, seed, x)
					worst = max(worst, rounds)
					if promised {
						count++
					}
				}
				t.Logf("%d of %d to the end, at most %d rounds", count, *seeds, worst)
			})
		}
	}
}
