package judge

import (
	"flag"
	"fmt"
	"math"
	"math/rand"
	"strings"
	"sync"
	"testing"

	"orchard/api"
	"orchard/cluster"
	"orchard/core"
	"orchard/dev"
	"orchard/op"
)

var (
	seeds = flag.Int64("seeds", 6, "how many random runs there are of each kind")
	from  = flag.Int64("from", 1, "the first seed")
)

// chaos is what may happen in a random run, with its weights.
type chaos struct {
	steps   int
	clients int
	power   int
	damage  int
	heads   bool // heads are damaged, too
	long    bool // the data of nodes are as long as they may be, and there are many
	lossy   int
}

// world is a cluster in which random things happen, and its judge.
type world struct {
	*testing.T
	name  string
	r     *rand.Rand
	n     int
	c     *cluster.Cluster
	j     *Judge
	chaos chaos
	hit   map[int]bool // which replicas were ever damaged
	open  map[int]bool // which clients know that their session was opened
	ahead map[int]int  // what had been told to anybody when a client called its command
	told  int          // the greatest When of all that was told
	count map[string]int
}

// must ends the test if something that must be is not.
func (w *world) must(ok bool, format string, list ...any) {
	w.Helper()
	if !ok {
		w.Fatalf("%s: %s", w.name, fmt.Sprintf(format, list...))
	}
}

func (w *world) one(list ...int) int { return list[w.r.Intn(len(list))] }

func (w *world) path() string {
	return []string{"/", "/", "/", "/", "/a", "/b", "/a/c", "/n0000000000", "a/", ""}[w.r.Intn(10)]
}

// command returns a random one; mostly the session's Open, as long as that was not answered.
func (w *world) command(id int) op.Cmd {
	c := op.Cmd{Kind: op.Update}
	if !w.open[id] && w.r.Intn(20) > 0 {
		c.Kind = op.Open
		return c
	}
	switch p := w.r.Intn(200); {
	case p < 1:
		c.Kind = op.Close
	case p < 20:
		c.Kind = op.Sync
	case p < 60:
		c.Kind, c.Path, c.Kids, c.Once = op.Watch, w.path(), w.r.Intn(2) == 0, w.r.Intn(3) == 0
	case p < 120:
		c.Ops = []op.Op{{Does: op.Does(1 + p%3), Path: w.path(), Data: fmt.Sprint(p), Version: -1, Serial: p%5 == 0}}
		return c
	}
	for range w.r.Intn(5) {
		c.Ops = append(c.Ops, w.operation())
	}
	return c
}

func (w *world) operation() op.Op {
	if w.chaos.long && w.r.Intn(3) > 0 {
		return op.Op{Does: op.Create, Path: "/xxxxxxxxxx", Data: strings.Repeat("y", api.MaxData), Version: -1, Serial: true}
	}
	return op.Op{
		Does: op.Does(1 + w.r.Intn(4)), Path: w.path(), Data: fmt.Sprint(w.r.Intn(1000)), Version: max(-1, w.r.Intn(8)-5),
		Serial: w.r.Intn(8) == 0, Own: w.r.Intn(4) == 0,
	}
}

// try lets a client try a replica, and checks what that returns.
func (w *world) try(id, k int) {
	w.Helper()
	cmd := w.c.Client(id).Cmd()
	a, ok := w.c.Try(id, k)
	if !ok {
		return
	}
	w.count["answers"]++
	w.must(w.j.Answer(cmd, a, w.ahead[id]), "%v was told %v, called when %d had been told", cmd, a, w.ahead[id])
	if a.E == api.OK {
		w.told = max(w.told, a.Result.When)
		w.open[id] = w.open[id] || cmd.Kind == op.Open
		w.count["done"]++
	}
}

// client lets a client do something.
func (w *world) client() {
	w.Helper()
	id, k := 1+w.r.Intn(w.chaos.clients), 1+w.r.Intn(w.n)
	switch p := w.r.Intn(10); {
	case p < 3:
		if w.c.Call(id, w.command(id)) == api.OK {
			w.ahead[id] = w.told
		}
	case p < 8:
		w.try(id, k)
	default:
		w.read(id, k)
	}
}

// read lets a client read from a replica, and checks what that returns.
func (w *world) read(id, k int) {
	w.Helper()
	s, least := w.path(), w.c.Client(id).Seen()
	a := w.c.Read(id, k, s)
	w.must(w.j.Read(s, a, least), "%s is read as %v by one who has seen %d", s, a, least)
	if a.E != api.ErrUnavail {
		w.count["reads"]++
	}
}

// fates returns random ones.
func (w *world) fates() []dev.Fate {
	list := make([]dev.Fate, w.r.Intn(8))
	for i := range list {
		list[i] = dev.Fate(w.r.Intn(3))
	}
	return list
}

// fail lets the power fail: now, at all replicas at once, or soon.
func (w *world) fail() {
	w.Helper()
	k := 1 + w.r.Intn(w.n)
	switch w.r.Intn(6) {
	case 0:
		for k := 1; k <= w.n; k++ {
			w.must(w.c.Crash(k, w.fates()...) == api.OK, "Crash of %d", k)
		}
	case 1, 2:
		w.must(w.c.Crash(k, w.fates()...) == api.OK, "Crash of %d", k)
	default:
		w.c.Device(k).Fall(w.r.Intn(9))
	}
}

// damage damages blocks of a replica, of at most as many as may be.
func (w *world) damage() {
	k, first := 1+w.r.Intn(w.n), 2
	if !w.hit[k] && len(w.hit) >= (w.n-1)/2 {
		return
	}
	w.hit[k] = true
	if w.chaos.heads && w.r.Intn(4) == 0 {
		first = 0
	}
	r, d := w.c.Replica(k), w.c.Device(k)
	for range 1 + w.r.Intn(4) {
		i := max(1, w.r.Intn(r.Last()-r.First()+4)+r.First()-1)
		list := []int{place(i), place(i), place(i) + core.LogSize, 2 + w.r.Intn(6), 68 + w.r.Intn(6)}
		if first == 0 {
			list = append(list, 0, 1)
		}
		for _, b := range list[w.r.Intn(len(list)):] {
			if w.r.Intn(2) == 0 {
				d.Lose(b)
			} else if w.r.Intn(2) == 0 {
				d.Flip(b, w.r.Intn(600), byte(1+w.r.Intn(255)))
			}
		}
	}
}

// act lets one random thing happen.
func (w *world) act() {
	w.Helper()
	k := 1 + w.r.Intn(w.n)
	switch p := w.r.Intn(1000); {
	case p < w.chaos.power:
		w.fail()
	case p < w.chaos.power+w.chaos.damage:
		w.damage()
	case p < 40:
		w.c.Lossy(w.one(0, 0, 2, 5, 1) * w.chaos.lossy)
	case p < 43:
		w.c.Replica(k).Scrub()
	case p < 45:
		w.c.Clear()
	case p < 120:
		w.c.Round()
	case p < 122:
		w.rest(w.r.Intn(20))
	case p < 250:
		w.c.Pass()
	case p < 550:
		w.client()
	case p < 700:
		if w.r.Intn(4) > 0 || k < 3 {
			w.c.Tick(k, w.r.Intn(4))
		}
	default:
		w.c.Deliver(w.one(1, 2, 5, 100, math.MaxInt), w.one(0, 0, 1, 2, 5))
	}
	if r := w.c.Replica(k); r.Err() != api.OK && w.r.Intn(10) == 0 {
		w.must(w.c.Crash(k, w.fates()...) == api.OK, "Crash of %d", k)
	}
}

// rest lets all be well for so many rounds, as Rest does, but checks what the clients are told, and reports whether all
// was well then, at any time. The sessions of clients that read now and then do not end meanwhile.
func (w *world) rest(rounds int) bool {
	w.Helper()
	w.must(w.c.Rest(0) == api.OK, "Rest")
	well := false
	for range rounds {
		w.c.Round()
		for id := 1; id <= w.chaos.clients; id++ {
			for k := 1; k <= w.n && w.c.Client(id).Busy(); k++ {
				w.try(id, k)
			}
			if w.r.Intn(40) == 0 {
				for k := 1; k <= w.n; k++ {
					w.read(id, k)
				}
			}
		}
		well = well || w.well()
	}
	return well
}

// look lets the judge look at all.
func (w *world) look() {
	w.Helper()
	w.must(w.j.Watch(w.c), "what the replicas know cannot be")
	for id := 1; id <= w.chaos.clients; id++ {
		x := w.c.Client(id)
		w.must(w.j.Heard(id, x.Events(), x.Seen()), "%d has heard %v up to %d", id, x.Events(), x.Seen())
	}
	w.must(w.j.Wrong() == api.OK, "wrong")
}

// promised reports whether P5 promises anything.
func (w *world) promised() bool {
	for k := 1; k <= w.n; k++ {
		if r := w.c.Replica(k); r.Role() == core.Lost || r.Room() < 8 {
			return false
		}
	}
	return true
}

// well reports what P5 promises: one leader, all clean and the same, and everything answered. (This may end for a while
// when a session ends by itself.)
func (w *world) well() bool {
	for id := 1; id <= w.chaos.clients; id++ {
		if w.c.Client(id).Busy() {
			return false
		}
	}
	return w.c.Leader() != 0 && w.c.Level()
}

// run lets random things happen.
func run(t *testing.T, n int, seed int64, x chaos, count map[string]int) {
	c, e := cluster.New(n, x.clients)
	if e != api.OK {
		t.Fatal(e)
	}
	w := &world{
		T: t, name: fmt.Sprint(n, " replicas, seed ", seed), r: rand.New(rand.NewSource(seed)), n: n, c: c, j: New(), chaos: x,
		hit: map[int]bool{}, open: map[int]bool{}, ahead: map[int]int{}, count: count,
	}
	for range 1 + w.r.Intn(3) {
		for range w.r.Intn(x.steps) {
			w.act()
			if w.r.Intn(4) == 0 {
				w.look()
			}
		}
		w.look()
		well := w.rest(250)
		w.look()
		if w.promised() {
			w.must(well, "Leader %d, Level %v", w.c.Leader(), w.c.Level())
			w.count["well"]++
		}
	}
	count["known"] += w.j.Known()
	for id := 1; id <= x.clients; id++ {
		count["events"] += len(c.Client(id).Events())
	}
}

// P20.2, P20.3: no check fails, whatever happens, as long as each committed entry has a copy; and all that the
// document's P1 to P5 promise of the whole system.
func TestChaos(t *testing.T) {
	kinds := map[string]chaos{
		"messages": {steps: 3000, clients: 3, lossy: 1},
		"quiet":    {steps: 3000, clients: 16},
		"power":    {steps: 3000, clients: 4, lossy: 1, power: 12},
		"damage":   {steps: 3000, clients: 4, lossy: 1, power: 6, damage: 8},
		"heads":    {steps: 2000, clients: 4, lossy: 1, power: 6, damage: 8, heads: true},
		"long":     {steps: 3000, clients: 8, power: 3, damage: 4, long: true},
	}
	total := map[string]int{}
	var lock sync.Mutex
	t.Cleanup(func() {
		for _, what := range []string{"answers", "reads", "events", "known", "well"} {
			if total[what] < 10 {
				t.Error(what, total[what])
			}
		}
	})
	for name, x := range kinds {
		for _, n := range []int{3, 5, 7} {
			t.Run(fmt.Sprint(name, n), func(t *testing.T) {
				t.Parallel()
				count := map[string]int{}
				for seed := *from; seed < *from+*seeds; seed++ {
					run(t, n, seed, x, count)
				}
				t.Log(count)
				lock.Lock()
				defer lock.Unlock()
				for what, n := range count {
					total[what] += n
				}
			})
		}
	}
}
