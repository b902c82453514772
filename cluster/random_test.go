package cluster

import (
	"fmt"
	"math"
	"math/rand"
	"testing"

	"orchard/core"
	"orchard/dev"
	"orchard/op"
)

// acts lets random things happen.
type acts struct {
	*twin
	r     *rand.Rand
	count map[string]int // of what happened
}

func (w *acts) one(list ...int) int { return list[w.r.Intn(len(list))] }

// number returns one from 1 to most, rarely another one.
func (w *acts) number(most int) int {
	if w.r.Intn(20) == 0 {
		return w.one(math.MinInt, -1, 0, most+1, most+2, math.MaxInt)
	}
	return 1 + w.r.Intn(max(most, 1))
}

// delay returns one, often a short one.
func (w *acts) delay() int {
	return w.one(math.MinInt, -1, 0, 0, 0, 0, 1, 1, 2, 3, 9)
}

func (w *acts) path() string {
	return []string{"/", "/a", "/b", "/a/c", "/n0000000000", "a/", ""}[w.r.Intn(7)]
}

func (w *acts) command() op.Cmd {
	cmd := op.Cmd{Kind: op.Kind(w.r.Intn(8) - 1), Path: w.path(), Kids: w.r.Intn(2) == 0, Once: w.r.Intn(3) == 0}
	if w.r.Intn(2) == 0 {
		cmd.Kind = op.Update
	}
	for range w.r.Intn(4) {
		cmd.Ops = append(cmd.Ops, op.Op{
			Does: op.Does(1 + w.r.Intn(4)), Path: w.path(), Data: fmt.Sprint(w.r.Intn(100)), Version: w.r.Intn(4) - 1,
			Serial: w.r.Intn(4) == 0, Own: w.r.Intn(4) == 0,
		})
	}
	return cmd
}

func (w *acts) fates() []dev.Fate {
	list := make([]dev.Fate, w.r.Intn(8))
	for i := range list {
		list[i] = dev.Fate(w.r.Intn(4))
	}
	return list
}

// disturb lets a device fail, or damages it.
func (w *acts) disturb() {
	k := 1 + w.r.Intn(w.p.n)
	block := w.r.Intn(core.Blocks)
	if w.r.Intn(2) == 0 {
		block = core.Blocks - 1 - w.r.Intn(2*core.LogSize)
	}
	turns := w.r.Intn(9)
	switch w.r.Intn(6) {
	case 0:
		w.device(k, func(d *dev.Device) { d.Lose(block) })
	case 1:
		w.device(k, func(d *dev.Device) { d.Flip(block, 9, 9) })
	case 2:
		w.device(k, func(d *dev.Device) { d.Write(2+5, fmt.Sprint(turns)) })
	default:
		w.device(k, func(d *dev.Device) { d.Fall(turns) })
	}
}

// clients lets a client do something.
func (w *acts) clients() {
	w.Helper()
	id, k := w.number(len(w.p.clients)), w.number(w.p.n)
	switch p := w.r.Intn(10); {
	case p < 2:
		w.count[fmt.Sprint("call ", w.call(id, w.command()))]++
	case p < 3:
		w.call(id, open())
	case p < 7:
		a, ok := w.try(id, k)
		w.count[fmt.Sprint("try ", int(a.E), " ", ok)]++
	default:
		w.count[fmt.Sprint("read ", w.read(id, k, w.path()).E)]++
	}
}

// act lets one random thing happen.
func (w *acts) act(upset int) {
	w.Helper()
	switch p := w.r.Intn(200); {
	case p < upset:
		w.disturb()
	case p < 2*upset:
		w.crash(w.number(w.p.n), w.fates()...)
	case p < 20:
		w.lossy(w.one(-1, 0, 0, 0, 1, 2, 3, 10, math.MaxInt))
	case p < 21:
		w.clear()
	case p < 22:
		w.rest(w.one(-1, 0, 1, 2, 40))
	case p < 30:
		w.round()
	case p < 60:
		w.pass()
	case p < 100:
		w.clients()
	case p < 150:
		w.tick(w.number(w.p.n), w.delay())
	default:
		w.count["heard"] += w.deliver(w.one(math.MinInt, -1, 0, 1, 1, 2, 3, 10, 100, math.MaxInt), w.delay())
	}
}

// P19.1 to P19.3: whatever happens, a Cluster is what follows by the letter.
func TestRandom(t *testing.T) {
	count := map[string]int{}
	for seed := range 120 {
		n, clients := []int{3, 5, 7}[seed%3], []int{0, 1, 3, 16}[seed/3%4]
		r := rand.New(rand.NewSource(int64(seed)))
		w := &acts{newTwin(t, n, clients), r, count}
		w.name = fmt.Sprint("seed ", seed)
		for i := range 1200 {
			w.act([]int{0, 1, 4}[seed%5%3])
			if i%5 == 0 {
				w.equal()
			}
			if w.c.Leader() != 0 {
				count["led"]++
			}
		}
		w.equal()
		w.rest(60)
		w.equal()
		w.round()
		for k := 1; k <= n; k++ {
			w.tick(k, k/2)
		}
		w.drained()
	}
	for _, what := range []string{
		"try 0 true", "try 1 false", "try 20 false", "try 21 false", "read 0", "read 1", "read 10", "read 11", "read 21",
		"call 0", "call 1", "heard", "led",
	} {
		if count[what] < 10 {
			t.Errorf("%s: %d", what, count[what])
		}
	}
	t.Log(count)
}
