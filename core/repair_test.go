package core

import (
	"fmt"
	"slices"
	"testing"

	"orchard/api"
	"orchard/chunk"
	"orchard/dev"
	"orchard/msg"
	"orchard/plog"
)

// entryBlocks are the blocks of entries, and markBlocks those of their marks.
func entryBlocks(list ...int) []int {
	var out []int
	for _, i := range list {
		out = append(out, logBase+i%LogSize)
	}
	return out
}

func markBlocks(list ...int) []int {
	var out []int
	for _, i := range list {
		out = append(out, logBase+LogSize+i%LogSize)
	}
	return out
}

// both are the blocks of entries and of their marks.
func both(list ...int) []int {
	return append(entryBlocks(list...), markBlocks(list...)...)
}

// span returns the numbers from one to another.
func span(from, to int) []int {
	var out []int
	for i := from; i <= to; i++ {
		out = append(out, i)
	}
	return out
}

// spoil loses or flips blocks of a replica, whose power fails.
func (w *world) spoil(k int, lose bool, list ...int) {
	w.devs[k] = w.devs[k].Crash()
	for _, b := range list {
		if lose {
			w.devs[k].Lose(b)
		} else {
			w.devs[k].Flip(b, 9+b, 64)
		}
	}
	w.open(k)
}

// well lets all become well again, and checks that what was committed still is.
func (w *world) well(what string, least int) {
	w.t.Helper()
	w.name = what
	w.until(150, "level", w.level)
	for k := 1; k <= w.n; k++ {
		w.texts(k)
		if w.cores[k].Commit() < least {
			w.fail("%d: entry %d is not committed", k, least)
		}
	}
	w.stays()
}

// P15.5: any damaged entries of up to (n - 1) / 2 replicas, with their marks or without, are repaired, also if the
// leader is one of them; and so are entries that were never there, but whose blocks are lost.
func TestRepairEntries(t *testing.T) {
	for name, list := range map[string][]int{
		"one":                entryBlocks(5),
		"first":              entryBlocks(1),
		"last":               entryBlocks(11),
		"all":                entryBlocks(span(1, 11)...),
		"one with mark":      both(5),
		"first with mark":    both(1),
		"last with mark":     both(11),
		"two with marks":     both(5, 6),
		"apart":              both(3, 5, 8),
		"five with marks":    both(span(3, 7)...),
		"last five":          both(span(7, 11)...),
		"all but the last":   both(span(1, 10)...),
		"all with marks":     both(span(1, 11)...),
		"the next":           both(12),
		"the next three":     both(12, 13, 14),
		"last and next":      both(span(9, 17)...),
		"some, and the next": append(both(4, 12), entryBlocks(8)...),
		"marks":              markBlocks(span(1, 11)...),
		"half of the log":    both(span(1, 50)...),
		"all of the log":     both(span(1, 64)...),
		"all but the head":   span(2, Blocks-1),
	} {
		for _, n := range []int{3, 5, 7} {
			for from := 1; from <= n; from++ {
				for _, lose := range []bool{true, false} {
					w := settled(t, n)
					for j := range (n - 1) / 2 {
						w.spoil((from+j)%n+1, lose, list...)
					}
					w.well(fmt.Sprintf("%s, %d replicas, from %d, lost %v", name, n, from, lose), 11)
				}
			}
		}
	}
}

// P15.5: as long as the marks are intact, and some replica was never damaged, any others may be.
func TestRepairByMarks(t *testing.T) {
	for _, n := range []int{3, 5, 7} {
		for whole := 1; whole <= n; whole++ {
			w := settled(t, n)
			for k := 1; k <= n; k++ {
				if k != whole {
					w.spoil(k, k%2 == 0, entryBlocks(span(1, 11)...)...)
				}
			}
			w.well(fmt.Sprintf("%d replicas, %d whole", n, whole), 11)
			// Each has entries that the others do not have.
			w = settled(t, n)
			for k := 1; k <= n; k++ {
				if k != whole {
					var list []int
					for i := 1; i <= 11; i++ {
						if i%(n-1) != k%(n-1) {
							list = append(list, i)
						}
					}
					w.spoil(k, true, entryBlocks(list...)...)
				}
			}
			w.well(fmt.Sprintf("%d replicas, %d whole, different entries", n, whole), 11)
		}
	}
}

// P15.4, P15.5: if all copies of an entry are damaged, nobody leads, and nobody reads another text there.
func TestAllCopiesDamaged(t *testing.T) {
	for _, n := range []int{3, 5, 7} {
		for _, list := range [][]int{entryBlocks(6), both(6), both(11), both(11, 12)} {
			w := settled(t, n)
			for k := 1; k <= n; k++ {
				w.spoil(k, k%2 == 0, list...)
			}
			for range 200 {
				w.round()
				for k := 1; k <= n; k++ {
					if c := w.cores[k]; c.Role() != Follower || c.Clean() {
						w.fail("%d leads, or is clean", k)
					}
				}
			}
		}
	}
	// While they run: the leader ends at its next Tick.
	w := settled(t, 3)
	for k := 1; k <= 3; k++ {
		w.devs[k].Lose(entryBlocks(6)[0])
		w.cores[k].Scrub()
	}
	for range 200 {
		w.round()
		if w.leader() != 0 || w.cores[1].Role() == Leader {
			w.fail("it leads")
		}
	}
}

// P15.5: damage that is found while the replicas run.
func TestRepairWhileRunning(t *testing.T) {
	for _, who := range [][]int{{1}, {2}, {3}, {1, 2}, {2, 3}, {1, 3}} {
		w := settled(t, 3)
		if e := w.cores[who[0]].Compact(3, w.shot(3)); e != api.OK {
			t.Fatal(e)
		}
		for _, k := range who {
			for _, b := range entryBlocks(4, 7, 11) {
				w.devs[k].Lose(b)
			}
			w.cores[k].Scrub()
			if w.cores[k].Clean() {
				w.fail("%d is clean", k)
			}
		}
		w.well(fmt.Sprint(who), 11)
	}
}

// compacted returns replicas that have a snapshot of several chunks, and entries after it.
func compacted(t *testing.T, n int, who ...int) *world {
	w := settled(t, n)
	for _, k := range who {
		if e := w.cores[k].Compact(8, w.shot(8)); e != api.OK || len(chunk.Cut(w.shot(8))) != 3 {
			t.Fatal(e, len(w.shot(8)))
		}
	}
	return w
}

// P15.5: damaged and missing snapshots are repaired from others, or replaced by them, or by ones that are stored where
// they are wanted.
func TestRepairSnapshots(t *testing.T) {
	lists := map[string][]int{
		"a chunk":          {4},
		"all chunks":       {4, 5, 6},
		"a List":           {2},
		"both Lists":       {2, 3},
		"all":              {2, 3, 4, 5, 6},
		"chunk and entry":  append(both(9), 5),
		"Lists and entry":  append(both(10), 2, 3),
		"Lists and log":    append(both(9, 10, 11), 2, 3),
		"chunks and marks": append(markBlocks(9, 10), 4, 5),
		"all but the head": span(2, Blocks-1),
	}
	for name, list := range lists {
		for _, who := range [][]int{{1}, {2}, {3}, {1, 2}, {2, 3}, {1, 2, 3}} {
			for k := 1; k <= 3; k++ {
				if !slices.Contains(who, k) {
					continue
				}
				w := compacted(t, 3, who...)
				w.spoil(k, k == 2, list...)
				w.well(fmt.Sprintf("%s of %d, snapshots of %v", name, k, who), 11)
			}
		}
	}
	// Two of three, each with chunks that the other one has; the third one has none, or the same.
	for _, who := range [][]int{{1, 2}, {1, 2, 3}} {
		w := compacted(t, 3, who...)
		w.spoil(1, true, 4, 5)
		w.spoil(2, true, 6)
		w.well(fmt.Sprint("different chunks ", who), 11)
		w = compacted(t, 3, who...)
		w.spoil(1, true, 2, 3)
		w.spoil(2, true, 2, 3)
		w.crash(3)
		w.well(fmt.Sprint("both Lists of two ", who), 11)
	}
}

// P15.5: a replica that was away when others dropped entries receives their snapshot: of any size.
func TestSnapshotForOneThatWasAway(t *testing.T) {
	for _, size := range []int{0, 1, 399, 400, 401, 9000, 64 * 400} {
		for _, n := range []int{3, 5, 7} {
			w := newWorld(t, n, 1)
			for k := n/2 + 2; k <= n; k++ {
				w.off[k] = true
			}
			w.until(100, "led", func() bool { return w.leader() != 0 })
			w.add(12)
			data := string(make([]byte, size))
			for k := 1; k <= n/2+1; k++ {
				if e := w.cores[k].Compact(9, data); e != api.OK {
					t.Fatal(e)
				}
			}
			clear(w.off)
			w.until(30, "level", w.level)
			for k := 1; k <= n; k++ {
				if i, s, e := w.cores[k].Shot(); i != 9 || s != data || e != api.OK || w.cores[k].First() != 10 {
					t.Errorf("%d bytes, %d of %d: %d, %d", size, k, n, i, e)
				}
			}
		}
	}
}

// P15.5: an entry that only a snapshot of the others covers: the snapshot replaces it.
func TestRepairOfDropped(t *testing.T) {
	for _, list := range [][]int{entryBlocks(5), both(5), both(8), both(7, 8, 9), both(span(1, 11)...)} {
		w := compacted(t, 3, 1, 2)
		w.spoil(3, true, list...)
		w.well(fmt.Sprint(list), 11)
		if w.cores[3].First() != 9 {
			t.Error(list, w.show())
		}
	}
}

// P15.5: a log that is full takes a snapshot, so that it can go on.
func TestSnapshotMakesRoom(t *testing.T) {
	w := settled(t, 3)
	w.off[3] = true
	for round := range 6 {
		w.off[3] = round%2 == 1
		for range 13 {
			w.propose(1)
		}
		w.collect(1)
		w.round()
		w.round()
		for k := 1; k <= 2; k++ {
			c := w.cores[k]
			if e := c.Compact(c.Commit(), w.shot(c.Commit())); e != api.OK {
				t.Fatal(e)
			}
		}
	}
	if w.cores[3].Room() > 60 {
		t.Error(w.show())
	}
	clear(w.off)
	w.well("full", 89)
}

// P15.2, P15.5: a replica that does not know whether an entry was there begins another term if the leader was elected
// before, since what it hears could be late; and it cuts the entry only then.
func TestUnknownInTheSameTerm(t *testing.T) {
	w := settled(t, 3)
	w.spoil(3, true, both(12)...)
	c := w.cores[3]
	if c.Last() != 12 || c.Clean() {
		t.Fatal(w.show())
	}
	feed := msg.Msg{Kind: msg.Feed, From: 1, To: 3, Term: 1, Index: 11, LogTerm: 1, Last: 11, Commit: 11}
	c.Hear(feed)
	if c.Last() != 12 || c.Clean() || c.Term() != 2 {
		t.Error(w.show())
	}
	w.well("unknown", 11)
	// If the leader has the entry, its term goes on.
	w = settled(t, 3)
	w.spoil(3, true, both(11, 12)...)
	w.propose(1)
	w.collect(1)
	w.well("unknown to one", 12)
	if w.leader() != 1 || w.cores[1].Term() != 1 {
		t.Error(w.show())
	}
}

// P15.4: known entries after one that is not known stay until the leader's own are compared with them: they may be
// committed. And nothing is appended, or confirmed, while one is not known.
func TestUnknownKeepsWhatIsAfter(t *testing.T) {
	d := usual(t) // entries 9 to 11 with the terms 3, 5 and 5
	d.Lose(logBase + 10)
	d.Lose(logBase + LogSize + 10)
	c := opened(t, d, 1, 3)
	have := func(what string, terms ...int) {
		t.Helper()
		var got []int
		for i := c.First(); i <= c.Last(); i++ {
			got = append(got, c.log.Term(i))
		}
		if !slices.Equal(got, terms) {
			t.Errorf("%s: %v, want %v", what, got, terms)
		}
	}
	have("opened", 3, 0, 5)
	list := []plog.Entry{{Index: 10, Term: 4, Data: "a"}, {Index: 11, Term: 8, Data: "b"}, {Index: 12, Term: 8, Data: "c"}}
	feed := msg.Msg{Kind: msg.Feed, From: 2, To: 1, Term: 8, Index: 9, LogTerm: 3, Last: 12, Commit: 12, Entries: list}
	c.Hear(feed)
	have("fed", 3, 0, 5)
	asked := false
	for _, m := range c.Out() {
		asked = asked || m.Kind == msg.Ask && m.To == 2
		if m.Kind == msg.FeedGive && m.Ok {
			t.Error("confirmed", m)
		}
	}
	if !asked || c.Commit() != 8 {
		t.Error("it asks the leader for nothing")
	}
	// What is no leader's says nothing of an entry whose term is not known.
	give := msg.Msg{Kind: msg.Give, From: 3, To: 1, Term: 8, Entries: list[:1]}
	c.Hear(give)
	have("given by another", 3, 0, 5)
	// The leader's entry alone does not tell whether entry 11 belongs to it.
	give = msg.Msg{Kind: msg.Give, From: 2, To: 1, Term: 8, Ok: true, Entries: list[:1]}
	c.Hear(give)
	have("given alone", 3, 0, 5)
	// The leader has another entry 11.
	give.Entries = append(entries(9, 3), list[0], list[1])
	c.Hear(give)
	have("given", 3, 4)
	if x, state := c.Entry(10); x.Data != "a" || state != plog.Good || !c.Clean() {
		t.Error(x, state)
	}
	// The leader has the same entry 11.
	d = usual(t)
	d.Lose(logBase + 10)
	d.Lose(logBase + LogSize + 10)
	c = opened(t, d, 1, 3)
	c.Hear(msg.Msg{Kind: msg.Feed, From: 2, To: 1, Term: 8, Index: 12, LogTerm: 8, Last: 12})
	give.Entries = append(entries(10, 5), entries(11, 5)...)
	c.Hear(give)
	have("the same", 3, 5, 5)
	// An entry beyond the log of a leader of a later term was never there, or is older than that term.
	d = usual(t)
	d.Lose(logBase + 11)
	d.Lose(logBase + LogSize + 11)
	c = opened(t, d, 1, 3)
	c.Hear(msg.Msg{Kind: msg.Feed, From: 2, To: 1, Term: 8, Index: 10, LogTerm: 5, Last: 10})
	have("beyond", 3, 5)
	if !c.Clean() || c.Term() != 8 {
		t.Error(face(c))
	}
}

// P15.4: damaged text is never given to others, nor what an entry of another term has.
func TestGivesNothingDamaged(t *testing.T) {
	d := usual(t)
	c := opened(t, d, 1, 3)
	ask := msg.Msg{Kind: msg.Ask, From: 2, To: 1, Entries: []plog.Entry{{Index: 9, Term: 3}, {Index: 10, Term: 4}, {Index: 11, Term: 5}, {Index: 12, Term: 5}}}
	c.Hear(ask)
	out := c.Out()
	want := []plog.Entry{{Index: 9, Term: 3, Data: "text 9"}, {Index: 11, Term: 5, Data: "text 11"}}
	if len(out) != 1 || out[0].Kind != msg.Give || out[0].To != 2 || !slices.Equal(out[0].Entries, want) {
		t.Error(out)
	}
	d.Flip(logBase+9, 40, 1)
	c.Hear(ask)
	out = c.Out()
	if len(out) != 1 || !slices.Equal(out[0].Entries, want[1:]) || c.Clean() {
		t.Error(out)
	}
	l, _ := c.shots.List()
	shot := msg.Msg{Kind: msg.ShotAsk, From: 2, To: 1, Index: 8, List: l, Part: 1}
	c.Hear(shot)
	if out = c.Out(); len(out) != 1 || out[0].Data != "sssssssss"+out[0].Data[9:] || len(out[0].Data) != 400 || out[0].Part != 1 {
		t.Error(out)
	}
	d.Lose(5)
	c.Hear(shot)
	if out = c.Out(); len(out) != 0 {
		t.Error(out)
	}
	for _, k := range []int{3, 64, 1 << 47} {
		shot.Part = k
		c.Hear(shot)
		if out = c.Out(); len(out) != 0 {
			t.Error(k, out)
		}
	}
}

// P15.4: parts of a snapshot that are not those of its List are not taken.
func TestTakesNoOtherParts(t *testing.T) {
	c := opened(t, dev.New(Blocks), 1, 3)
	text := string(make([]byte, 900))
	l := chunk.Of(20, 3, text)
	give := func(k int, data string, from int) msg.Msg {
		return msg.Msg{Kind: msg.ShotGive, From: from, To: 1, Term: 4, List: l, Part: k, Data: data}
	}
	for _, m := range []msg.Msg{give(0, text[:400], 2), give(1, text[:399], 2), give(1, "x"+text[:399], 3), give(2, text[:400], 3), give(3, text[:100], 2), give(0, text[:400], 3)} {
		c.Hear(m)
		if c.First() != 1 || c.Err() != api.OK {
			t.Fatal(face(c))
		}
	}
	c.Hear(give(2, text[:100], 3))
	c.Hear(give(1, text[:400], 2))
	if i, s, e := c.Shot(); i != 20 || s != text || e != api.OK || c.First() != 21 || c.Last() != 20 || c.Commit() != 20 || !c.Clean() {
		t.Error(face(c))
	}
	// A wrong part does not keep the right one from being taken.
	c = opened(t, dev.New(Blocks), 1, 3)
	for _, m := range []msg.Msg{give(0, text[:400], 2), give(1, "x"+text[:399], 2), give(1, text[:400], 2), give(2, text[:100], 2)} {
		c.Hear(m)
	}
	if i, s, e := c.Shot(); i != 20 || s != text || e != api.OK {
		t.Error(face(c))
	}
	// An older one is not taken.
	l = chunk.Of(19, 3, "older")
	c.Hear(give(0, "older", 2))
	if i, _, e := c.Shot(); i != 20 || e != api.OK {
		t.Error(i, e)
	}
}

// P15.4: whenever the power fails while a snapshot is taken, what there was is there, or what was taken. What is known to
// belong to the snapshot stays; what does not is gone.
func TestTakeWithoutPower(t *testing.T) {
	for _, x := range []struct {
		index, term, last int
		spoil             []int
	}{
		{10, 6, 10, nil}, {11, 6, 11, nil}, {11, 4, 11, nil}, {40, 6, 40, nil},
		{10, 5, 11, entryBlocks(9)}, {11, 5, 11, both(10)}, {9, 3, 11, both(9)}, {10, 6, 11, both(10)}, {10, 4, 10, entryBlocks(9)},
		{8, 3, 11, []int{2, 3}}, {9, 3, 11, []int{2, 3}}, {10, 5, 11, []int{5}}, {12, 5, 12, []int{4, 5, 6}},
	} {
		for turns := 0; ; turns++ {
			done := false
			for fate := dev.Lost; fate <= dev.Torn; fate++ {
				d := usual(t)
				for _, b := range x.spoil {
					d.Lose(b)
				}
				c := opened(t, d, 1, 3)
				d.Fall(turns)
				c.Hear(msg.Msg{Kind: msg.ShotGive, From: 2, To: 1, Term: 7, List: chunk.Of(x.index, x.term, "new"), Data: "new"})
				done = c.Err() == api.OK
				o := opened(t, d.Crash(fate, fate, fate), 1, 3)
				i, s, e := o.Shot()
				isNew := i == x.index && s == "new" && o.First() == i+1 && o.Commit() == i && o.Last() == x.last && o.Clean()
				isOld := o.First() == 9 && o.Commit() == 8 && o.Last() == 11 && (e == api.OK && i == 8 || e == api.ErrBad && len(x.spoil) > 0)
				if !isOld && !isNew || done && !isNew {
					t.Fatalf("%v, after %d operations, %d: %s", x, turns, fate, face(o))
				}
			}
			if done {
				break
			}
		}
	}
}

// P15.4: a snapshot is not taken if all that it covers is here.
func TestTakesNoMoreThanNeeded(t *testing.T) {
	for _, l := range []chunk.List{chunk.Of(8, 3, "new"), chunk.Of(10, 5, "new"), chunk.Of(11, 5, "new"), chunk.Of(3, 1, "new")} {
		d := usual(t)
		d.Lose(logBase + 11)
		c := opened(t, d, 1, 3)
		if c.Hear(msg.Msg{Kind: msg.ShotGive, From: 2, To: 1, Term: 7, List: l, Data: "new"}); l.Index < 11 && c.First() != 9 {
			t.Error(l, face(c))
		}
		c = opened(t, usual(t), 1, 3)
		c.Hear(msg.Msg{Kind: msg.ShotGive, From: 2, To: 1, Term: 7, List: l, Data: "new"})
		if c.First() != 9 || c.Commit() != max(8, l.Index) || c.Last() != 11 || !c.Clean() || len(c.Out()) > 0 {
			t.Error(l, face(c))
		}
	}
}
