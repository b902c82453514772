package core

import (
	"testing"

	"orchard/api"
	"orchard/head"
	"orchard/plog"
)

// scattered returns replicas with logs and terms of their own, that have waited for different times.
func scattered(t *testing.T, n int, seed int64) *world {
	w := newWorld(t, n, seed)
	terms := w.r.Perm(n)
	for k := 1; k <= n; k++ {
		c := w.cores[k]
		var list []plog.Entry
		for i := range w.r.Intn(12) {
			list = append(list, plog.Entry{Index: i + 1, Term: terms[k-1] + 1})
		}
		if e := c.head.Put(head.Head{Term: 12 + w.r.Intn(5), Vote: k, First: 1}); e != api.OK {
			t.Fatal(e)
		}
		if e := c.log.Append(list...); e != api.OK {
			t.Fatal(e)
		}
		c.idle = w.r.Intn(patience[k-1])
	}
	for range w.r.Intn((n-1)/2 + 1) {
		w.off[1+w.r.Intn(n)] = true
	}
	return w
}

func TestElections(t *testing.T) {
	for n, most := range map[int]int{3: 60, 5: 100, 7: 100} {
		worst := 0
		for seed := range *seeds * 100 {
			w := scattered(t, n, seed)
			worst = max(worst, w.until(most, "led", func() bool { return w.leader() != 0 }))
		}
		t.Logf("%d replicas: at most %d rounds", n, worst)
	}
}
