package core

import (
	"fmt"
	"testing"

	"orchard/api"
	"orchard/head"
	"orchard/plog"
)

// scattered returns replicas with logs and terms of their own, that have waited for different times.
func scattered(t *testing.T, n int, seed int64) *world {
	w := newWorld(t, n, seed)
	terms := w.r.Perm(n)
	for k := 1; k <= n; k++ {
		c := w.cores[k]
		var list []plog.Entry
		for i := range w.r.Intn(12) {
			list = append(list, plog.Entry{Index: i + 1, Term: terms[k-1] + 1})
		}
		if e := c.head.Put(head.Head{Term: 12 + w.r.Intn(5), Vote: k, First: 1}); e != api.OK {
			t.Fatal(e)
		}
		if e := c.log.Append(list...); e != api.OK {
			t.Fatal(e)
		}
		c.idle = w.r.Intn(patience[k-1])
	}
	for range w.r.Intn((n-1)/2 + 1) {
		w.off[1+w.r.Intn(n)] = true
	}
	return w
}

// bound is within how many rounds one of so many replicas leads.
func bound(n int) int {
	if n == 3 {
		return 60
	}
	return 100
}

// led lets rounds pass until one leads that all follow.
func (w *world) led(most int) int {
	w.t.Helper()
	return w.until(most, "led", func() bool { return w.leader() != 0 })
}

// P15.6: one leads, whatever the logs and terms are, and however long each has waited.
func TestElections(t *testing.T) {
	for _, n := range []int{3, 5, 7} {
		worst := 0
		for seed := range *seeds * 20 {
			w := scattered(t, n, seed)
			worst = max(worst, w.led(bound(n)))
		}
		t.Logf("%d replicas: at most %d rounds", n, worst)
	}
}

// P15.6: of three replicas on new devices one leads within thirty rounds; so the chapter's example.
func TestThreeNew(t *testing.T) {
	w := newWorld(t, 3, 1)
	w.led(30)
	w.stays()
	// Also if they wait for different times already.
	for first := range 20 {
		for second := range 20 {
			w := newWorld(t, 3, 1)
			w.off[2], w.off[3] = first > 0, second > 0
			for round := range max(first, second) {
				w.off[2], w.off[3] = round < first, round < second
				w.round()
			}
			clear(w.off)
			if w.leader() == 0 {
				w.led(30)
			}
		}
	}
}

// absences are the sets of up to (n - 1) / 2 of n replicas.
func absences(n int) [][]bool {
	var list [][]bool
	for set := range 1 << n {
		off := make([]bool, n+1)
		count := 0
		for k := 1; k <= n; k++ {
			if off[k] = set>>(k-1)&1 == 1; off[k] {
				count++
			}
		}
		if count <= (n-1)/2 {
			list = append(list, off)
		}
	}
	return list
}

// P15.5, P15.6: one leads, and what is proposed is committed, whichever replicas are absent; then others are.
func TestAbsent(t *testing.T) {
	for _, n := range []int{3, 5, 7} {
		list := absences(n)
		for i, off := range list {
			w := newWorld(t, n, int64(i))
			for j := range 3 {
				copy(w.off, list[(i+j*17)%len(list)])
				w.name = fmt.Sprintf("%d replicas, absent %v after %v", n, w.off, off)
				w.led(bound(n))
				w.stays()
				w.until(150, "level", w.level)
			}
		}
	}
}

// P15.6: as many entries as there is room for are committed after the round in which they were proposed, also if they
// are proposed when the messages of a Tick are on their way.
func TestCommittedInTheRound(t *testing.T) {
	for _, n := range []int{3, 5, 7} {
		w := newWorld(t, n, 1)
		w.led(bound(n))
		lead := w.leader()
		c := w.cores[lead]
		for c.Room() >= Spare {
			if _, e := w.propose(lead); e != api.OK {
				t.Fatal(e)
			}
		}
		w.collect(lead)
		w.round()
		if c.Commit() != c.Last() || c.Last() != 25 {
			w.fail("not committed")
		}
		if w.most > 2000 {
			t.Error(w.most)
		}
		if e := c.Compact(20, "x"); e != api.OK {
			t.Fatal(e)
		}
		for k := 1; k <= n; k++ {
			w.tick(k)
			w.collect(k)
		}
		i, e := w.propose(lead)
		w.collect(lead)
		w.drain()
		if e != api.OK || c.Commit() != i {
			w.fail("%d is not committed, %d", i, e)
		}
	}
}

// P15.6: a leader goes on leading, and does not append anything by itself.
func TestLeaderStays(t *testing.T) {
	for _, n := range []int{3, 5, 7} {
		w := settled(t, n)
		for range 500 {
			w.round()
			if w.leader() != 1 || w.cores[1].Last() != 11 || w.cores[1].Term() != 1 {
				w.fail("changed")
			}
		}
		if w.most > 20*n {
			t.Errorf("%d messages in a round", w.most)
		}
	}
}

// P15.5, P15.6: if the leader is absent, another one leads; when it comes back, it follows.
func TestLeaderAbsent(t *testing.T) {
	for _, n := range []int{3, 5, 7} {
		w := settled(t, n)
		for range 8 {
			lead := w.leader()
			w.off[lead] = true
			w.propose(lead)
			w.led(bound(n))
			w.stays()
			clear(w.off)
			w.round()
			w.until(bound(n), "level", w.level)
		}
	}
}

// P15.4, P15.5: an entry that only a leader had that was cut off is gone when it comes back, if another one is committed.
func TestDivergedEntriesGo(t *testing.T) {
	w := settled(t, 5)
	old := w.cores[1]
	for range 9 {
		if _, e := old.Propose("of one alone"); e != api.OK {
			t.Fatal(e)
		}
	}
	old.Out()
	w.off[1] = true
	w.led(100)
	w.add(3)
	clear(w.off)
	w.well("diverged", 15)
	for i := 12; i <= 14; i++ {
		if x, state := old.Entry(i); state != plog.Good || x.Data == "of one alone" {
			t.Error(i, x, state)
		}
	}
}
