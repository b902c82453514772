package core

import (
	"fmt"
	"slices"
	"strings"
	"testing"

	"orchard/api"
	"orchard/chunk"
	"orchard/dev"
	"orchard/head"
	"orchard/msg"
	"orchard/plog"
	"orchard/sum"
)

// elected returns replica 1 of n as the leader of term 8, with the entries 9 to 11 and its first one, 12.
func elected(t *testing.T, n int) (*Core, *dev.Device) {
	t.Helper()
	d := usual(t)
	c := opened(t, d, 1, n)
	for c.Role() == Follower {
		c.Tick()
	}
	for k := 2; k <= n; k++ {
		c.Hear(msg.Msg{Kind: msg.VoteGive, From: k, To: 1, Term: 8, Ok: true})
	}
	if c.Role() != Leader || c.Last() != 12 {
		t.Fatal(face(c))
	}
	c.Out()
	return c, d
}

// P15.3, P15.4: what a majority confirmed is committed, but only together with an entry of the leader's own term; and
// only what was confirmed in this term, and durably.
func TestCommitted(t *testing.T) {
	given := func(from, index int) msg.Msg {
		return msg.Msg{Kind: msg.FeedGive, From: from, To: 1, Term: 8, Ok: true, Index: index}
	}
	for _, n := range []int{3, 5, 7} {
		c, _ := elected(t, n)
		hear := func(want int, list ...msg.Msg) {
			t.Helper()
			for _, m := range list {
				c.Hear(m)
			}
			if c.Commit() != want {
				t.Errorf("%d replicas: %v: commit %d, want %d", n, list, c.Commit(), want)
			}
		}
		for k := 2; k <= n; k++ {
			hear(8, given(k, 11))
		}
		refused := given(2, 12)
		refused.Ok = false
		old := given(3, 12)
		old.Term = 7
		for range n {
			hear(8, refused, old)
		}
		for k := 2; k <= (n-1)/2; k++ {
			hear(8, given(k, 12), given(k, 12))
		}
		hear(12, given(n, 12))
		if i, e := c.Propose("x"); i != 13 || e != api.OK {
			t.Fatal(i, e)
		}
		// A late answer takes nothing back.
		hear(12, given(n, 11))
		for k := 2; k <= (n+1)/2; k++ {
			hear(map[bool]int{true: 13, false: 12}[k == (n+1)/2], given(k, 13))
		}
	}
}

// P15.4: a leader does not count its own entry if that is damaged.
func TestOwnDamageDoesNotCount(t *testing.T) {
	c, d := elected(t, 3)
	d.Lose(logBase + 12)
	c.Entry(12)
	c.Hear(msg.Msg{Kind: msg.FeedGive, From: 2, To: 1, Term: 8, Ok: true, Index: 12})
	if c.Commit() != 8 {
		t.Error(c.Commit())
	}
}

// fed returns what a replica answers to a Feed.
func fed(t *testing.T, c *Core, m msg.Msg) msg.Msg {
	t.Helper()
	m.Kind, m.From, m.To = msg.Feed, 2, 1
	c.Hear(m)
	out := c.Out()
	if len(out) == 0 || out[0].Kind != msg.FeedGive || out[0].To != 2 {
		t.Fatalf("answer to %v: %v", m, out)
	}
	return out[0]
}

// P15.4: a replica confirms only entries that it has intact, and only those that are the leader's.
func TestConfirms(t *testing.T) {
	d := usual(t)
	c := opened(t, d, 1, 3)
	more := entries(12, 8, 8)
	if a := fed(t, c, msg.Msg{Term: 8, Index: 13, LogTerm: 8, Last: 13}); a.Ok || a.Index != 11 {
		t.Error(a)
	}
	if a := fed(t, c, msg.Msg{Term: 8, Index: 11, LogTerm: 6, Last: 13}); a.Ok || a.Index != 8 || c.Last() != 11 {
		t.Error(a)
	}
	if a := fed(t, c, msg.Msg{Term: 8, Index: 11, LogTerm: 5, Last: 13, Commit: 10}); !a.Ok || a.Index != 11 || c.Commit() != 10 {
		t.Error(a, c.Commit())
	}
	if a := fed(t, c, msg.Msg{Term: 8, Index: 11, LogTerm: 5, Last: 13, Commit: 99, Entries: more[:1]}); !a.Ok || a.Index != 12 || c.Commit() != 12 {
		t.Error(a, c.Commit())
	}
	d.Lose(logBase + 10)
	c.Scrub()
	if a := fed(t, c, msg.Msg{Term: 8, Index: 12, LogTerm: 8, Last: 13, Commit: 13, Entries: more[1:]}); !a.Ok || a.Index != 9 || c.Last() != 13 || c.Commit() != 13 {
		t.Error(a, c.Commit())
	}
	if c.Lead() != 2 || c.Role() != Follower || c.Term() != 8 {
		t.Error(face(c))
	}
	// A leader of an earlier term is told the term, and changes nothing.
	was := face(c)
	if a := fed(t, c, msg.Msg{Term: 7, Index: 13, LogTerm: 8, Last: 14, Entries: entries(14, 7)}); a.Ok || a.Term != 8 || face(c) != was {
		t.Error(a, face(c))
	}
}

// P15.4: entries that are not the leader's are cut off, and those that are stay, also if a message is late.
func TestTakesTheLeadersEntries(t *testing.T) {
	for _, x := range []struct {
		index, term int
		list        []plog.Entry
		want        []int // terms from 9 on
	}{
		{8, 3, entries(9, 3, 5, 5), []int{3, 5, 5}},
		{8, 3, entries(9, 3), []int{3, 5, 5}},
		{8, 3, entries(9, 3, 5, 6), []int{3, 5, 6}},
		{8, 3, entries(9, 3, 6), []int{3, 6}},
		{8, 3, entries(9, 4, 5, 5, 5), []int{4, 5, 5, 5}},
		{10, 5, entries(11, 5, 8), []int{3, 5, 5, 8}},
		{10, 5, entries(11, 7, 8), []int{3, 5, 7, 8}},
		{11, 5, nil, []int{3, 5, 5}},
		{9, 3, nil, []int{3, 5, 5}},
		// from before the first entry, which is committed
		{5, 1, entries(6, 1, 2), []int{3, 5, 5}},
		{6, 2, entries(7, 3, 3, 3, 7), []int{3, 7}},
		{0, 0, nil, []int{3, 5, 5}},
		// these are no leader's
		{11, 5, entries(13, 8), []int{3, 5, 5}},
		{11, 5, entries(12, 9), []int{3, 5, 5}},
		{11, 5, []plog.Entry{{Index: 12}}, []int{3, 5, 5}},
	} {
		c := opened(t, usual(t), 1, 3)
		m := msg.Msg{Kind: msg.Feed, From: 2, To: 1, Term: 8, Index: x.index, LogTerm: x.term, Last: 12, Entries: x.list}
		for range 2 {
			c.Hear(m)
			if got := terms(c); !slices.Equal(got, x.want) || c.First() != 9 || !c.Clean() || c.Err() != api.OK {
				t.Errorf("%v: %v", x, got)
			}
		}
	}
}

// P15.4: no message makes a replica cut what is committed.
func TestCommittedStays(t *testing.T) {
	c := opened(t, usual(t), 1, 3)
	fed(t, c, msg.Msg{Term: 8, Index: 11, LogTerm: 5, Last: 11, Commit: 11})
	c.Hear(msg.Msg{Kind: msg.Feed, From: 2, To: 1, Term: 8, Index: 9, LogTerm: 3, Last: 11, Entries: entries(10, 8, 8)})
	if c.Commit() != 11 || c.log.Term(10) != 5 || c.log.Term(11) != 5 {
		t.Error(face(c))
	}
}

// P15.5: a log that is full takes as much as there is room for, and then asks for a snapshot, which makes room.
func TestFullLog(t *testing.T) {
	w := newWorld(t, 3, 1)
	w.led(30)
	lead := w.leader()
	for range 14 {
		for range 5 {
			if _, e := w.propose(lead); e != api.OK {
				w.fail("Propose: %d", e)
			}
		}
		w.collect(lead)
		w.round()
		for k := 1; k <= 2; k++ {
			// The others' logs begin with entries that the full one has.
			if c := w.cores[k]; c.Commit() > 16 {
				if e := c.Compact(c.Commit()-15, w.shot(c.Commit()-15)); e != api.OK {
					w.fail("Compact: %d", e)
				}
			}
		}
	}
	w.well("full", 71)
	if w.cores[3].First() == 1 {
		t.Error(w.show())
	}
}

// P15.2, P15.5: only the leader of the term says which entry is one that is not known, and only beside a known one.
func TestWhoTellsUnknown(t *testing.T) {
	spoiled := func(list ...int) *Core {
		d := usual(t)
		for _, b := range both(list...) {
			d.Lose(b)
		}
		c := opened(t, d, 1, 3)
		c.Hear(msg.Msg{Kind: msg.Feed, From: 2, To: 1, Term: 8, Index: 12, LogTerm: 8, Last: 12})
		c.Out()
		return c
	}
	give := func(change func(m *msg.Msg), list ...plog.Entry) msg.Msg {
		m := msg.Msg{Kind: msg.Give, From: 2, To: 1, Term: 8, Ok: true, Entries: list}
		change(&m)
		return m
	}
	same := func(m *msg.Msg) {}
	for _, x := range []struct {
		what  string
		lost  []int
		m     msg.Msg
		terms []int
	}{
		{"the last one", []int{11}, give(same, entries(10, 5, 6)...), []int{3, 5, 6}},
		{"not as the leader", []int{11}, give(func(m *msg.Msg) { m.Ok = false }, entries(10, 5, 6)...), []int{3, 5, 0}},
		{"of an older term", []int{11}, give(func(m *msg.Msg) { m.Term = 7 }, entries(10, 5, 6)...), []int{3, 5, 0}},
		{"alone", []int{11}, give(same, entries(11, 6)...), []int{3, 5, 0}},
		{"beside another one", []int{11}, give(same, entries(10, 6, 6)...), []int{3}},
		{"in between", []int{10}, give(same, entries(10, 4, 5)...), []int{3, 4, 5}},
		{"the first one", []int{9}, give(same, entries(9, 3, 5)...), []int{3, 5, 5}},
		{"two", []int{9, 10}, give(same, entries(9, 3, 5, 5)...), []int{3, 5, 5}},
		{"the upper one of two", []int{9, 10}, give(same, entries(10, 5, 5)...), []int{0, 5, 5}},
		{"the lower one of two", []int{9, 10}, give(same, entries(9, 3)...), []int{0, 0, 5}},
		{"without the one after them", []int{9, 10}, give(same, entries(8, 3, 3, 5)...), []int{0, 0, 5}},
		{"the last two", []int{10, 11}, give(same, entries(9, 3, 7, 7)...), []int{3, 7, 7}},
		{"the first of the last two", []int{10, 11}, give(same, entries(9, 3, 7)...), []int{3, 7, 0}},
		{"all", []int{9, 10, 11}, give(same, entries(9, 4, 4, 4)...), []int{4, 4, 4}},
		{"the second one of all", []int{9, 10, 11}, give(same, entries(10, 4, 4)...), []int{0, 0, 0}},
		{"none", []int{9, 11}, give(same), []int{0, 5, 0}},
	} {
		c := spoiled(x.lost...)
		before := terms(c)
		c.Hear(x.m)
		got := terms(c)
		if !slices.Equal(got, x.terms) || c.Clean() != !slices.Contains(got, 0) || c.Err() != api.OK {
			t.Errorf("%s: %v, want %v", x.what, got, x.terms)
		}
		// It goes on asking if that was of use.
		useful := !slices.Equal(got, before) && !c.Clean()
		if out := c.Out(); len(out) > 1 || (len(out) == 1) != useful || useful && (out[0].Kind != msg.Ask || out[0].To != 2 || !out[0].Ok) {
			t.Error(x.what, out)
		}
	}
}

// P15.2, P15.5: what the leader cannot tell, since its log ends before it, is cut if it is from before the leader's term;
// what comes before the leader's log, but is committed, is beside a known one.
func TestUnknownAtTheEnds(t *testing.T) {
	spoiled := func(list ...int) *Core {
		d := usual(t)
		for _, b := range both(list...) {
			d.Lose(b)
		}
		return opened(t, d, 1, 3)
	}
	c := spoiled(10)
	c.Hear(msg.Msg{Kind: msg.Feed, From: 2, To: 1, Term: 8, Index: 10, LogTerm: 8, Last: 10})
	if got := terms(c); !slices.Equal(got, []int{3, 0}) || c.Term() != 8 || c.Lead() != 2 {
		t.Error(got, c.Term())
	}
	c = spoiled(10)
	c.Hear(msg.Msg{Kind: msg.Feed, From: 2, To: 1, Term: 7, Index: 10, LogTerm: 7, Last: 10})
	if got := terms(c); !slices.Equal(got, []int{3, 0, 5}) || c.Term() != 8 || c.Lead() != 0 {
		t.Error(got, c.Term())
	}
	// That is stored: after a failure of the power it does not follow the leader of the earlier term either.
	if h := stored(t, c.device); h.Term != 8 || h.Vote != 0 {
		t.Error(h)
	}
	c = spoiled(10, 11)
	c.Hear(msg.Msg{Kind: msg.Feed, From: 2, To: 1, Term: 8, Index: 11, LogTerm: 8, Last: 11})
	give := msg.Msg{Kind: msg.Give, From: 2, To: 1, Term: 8, Ok: true, Entries: entries(10, 7, 7)}
	c.Hear(give)
	if got := terms(c); !slices.Equal(got, []int{3, 0, 0}) {
		t.Error(got)
	}
	c.Hear(msg.Msg{Kind: msg.ShotGive, From: 2, To: 1, Term: 8, List: chunk.Of(9, 3, "x"), Data: "x"})
	c.Hear(give)
	if got := terms(c); !slices.Equal(got, []int{3, 7, 7}) || c.Commit() != 9 || !c.Clean() {
		t.Error(got, c.Commit())
	}
}

// P15.6: answers that come late do not make a leader send anything.
func TestLateAnswers(t *testing.T) {
	c, _ := elected(t, 3)
	for _, m := range []msg.Msg{
		{Term: 8, Ok: true, Index: 12}, {Term: 8, Ok: true, Index: 12}, {Term: 8, Ok: true, Index: 11}, {Term: 8, Index: 99},
		{Term: 8, Index: 12}, {Term: 8, Index: 11}, {Term: 7, Index: 9}, {Term: 7, Ok: true, Index: 9},
	} {
		m.Kind, m.From, m.To = msg.FeedGive, 2, 1
		c.Hear(m)
		if out := c.Out(); len(out) > 0 {
			t.Error(m, out)
		}
	}
}

// terms returns the terms of a replica's entries.
func terms(c *Core) []int {
	var list []int
	for i := c.First(); i <= c.Last(); i++ {
		list = append(list, c.log.Term(i))
	}
	return list
}

// P15.5: who is asked as the leader and is not gives only what is asked for by its term.
func TestAskedAsTheLeader(t *testing.T) {
	ask := msg.Msg{Kind: msg.Ask, From: 2, To: 1, Term: 8, Ok: true, Entries: []plog.Entry{{Index: 10}, {Index: 11, Term: 5}}}
	c := opened(t, usual(t), 1, 3)
	c.Hear(ask)
	if out := c.Out(); len(out) != 1 || out[0].Ok || !slices.Equal(out[0].Entries, entries(11, 5)) {
		t.Error(out)
	}
	c, _ = elected(t, 3)
	c.Hear(ask)
	if out := c.Out(); len(out) != 1 || !out[0].Ok || !slices.Equal(out[0].Entries, entries(10, 5, 5)) {
		t.Error(out)
	}
	ask.Term = 7
	c.Hear(ask)
	if out := c.Out(); len(out) != 1 || out[0].Ok || !slices.Equal(out[0].Entries, entries(11, 5)) {
		t.Error(out)
	}
}

// P15.5: an entry is repaired whichever of the other replicas is there.
func TestRepairByAny(t *testing.T) {
	for _, n := range []int{3, 5, 7} {
		for k := 1; k <= n; k++ {
			for other := 1; other <= n; other++ {
				if other == k {
					continue
				}
				w := settled(t, n)
				for j := 1; j <= n; j++ {
					w.off[j] = j != k && j != other
				}
				w.spoil(k, true, entryBlocks(3, 4, 7, 9, 11)...)
				for range n {
					w.round()
				}
				if !w.cores[k].Clean() {
					w.fail("%d is not repaired by %d", k, other)
				}
			}
		}
	}
}

// P15.4: a snapshot that reaches further than the log continues from, but is damaged, takes nothing from the log; with
// its chunks repaired it does. (After a failure of the power an older List can appear again, see README.)
func TestDamagedNewerShot(t *testing.T) {
	d := disk(t, head.Head{Term: 7, First: 9, Base: 3}, "old", entries(9, 3, 5, 5)...)
	s, e := chunk.Open(d, 2)
	text := strings.Repeat("n", 900)
	if e != api.OK || s.Put(11, 5, text) != api.OK {
		t.Fatal(e)
	}
	whole := d.Clone()
	d.Lose(2 + 66 + 2)
	d.Lose(2 + 66 + 4)
	c := opened(t, d, 1, 3)
	if i, data, e := c.Shot(); i != 0 || data != "" || e != api.ErrBad || c.Clean() || c.First() != 9 || c.Last() != 11 || c.Commit() != 8 {
		t.Error(face(c))
	}
	if x, state := c.Entry(10); x.Data != "text 10" || state != plog.Good {
		t.Error(x, state)
	}
	asked := false
	c.Tick()
	for _, m := range c.Out() {
		asked = asked || m.Kind == msg.ShotAsk && m.Index == 11
	}
	l := chunk.Of(11, 5, text)
	for k, data := range chunk.Cut(text) {
		c.Hear(msg.Msg{Kind: msg.ShotGive, From: 2, To: 1, Term: 7, List: l, Part: k, Data: data})
		if (k == 2) != c.Clean() {
			t.Error(k, face(c))
		}
	}
	if i, data, e := c.Shot(); !asked || i != 11 || data != text || e != api.OK || c.First() != 12 || c.Commit() != 11 {
		t.Error(face(c))
	}
	// An intact one is what Compact had stored when the power failed.
	c = opened(t, whole, 1, 3)
	if i, data, e := c.Shot(); i != 11 || data != text || e != api.OK || c.First() != 12 || c.Commit() != 11 || !c.Clean() {
		t.Error(face(c))
	}
}

// parts returns the messages that give a snapshot.
func parts(from, index, term int, text string) []msg.Msg {
	var list []msg.Msg
	for k, data := range chunk.Cut(text) {
		list = append(list, msg.Msg{Kind: msg.ShotGive, From: from, To: 1, Term: 7, List: chunk.Of(index, term, text), Part: k, Data: data})
	}
	return list
}

// asks returns for which part of which snapshot a replica asks whom.
func asks(c *Core) string {
	s := ""
	for _, m := range c.Out() {
		if m.Kind == msg.ShotAsk {
			s += fmt.Sprintf("%d: %d/%d ", m.To, m.List.Index, m.Part)
		}
	}
	return s
}

// P15.5: a snapshot is received part by part; what is lost is asked for again; and who cannot give more is given up.
func TestReceive(t *testing.T) {
	c := opened(t, usual(t), 1, 3)
	want := func(what, x string) {
		t.Helper()
		if got := asks(c); got != x {
			t.Errorf("%s: asks %q, want %q", what, got, x)
		}
	}
	text := strings.Repeat("x", 1500)
	late, more, less := parts(2, 20, 6, text), parts(3, 30, 6, text), parts(3, 15, 6, text)
	c.Hear(late[0])
	want("the first part", "2: 20/1 ")
	c.Hear(late[0])
	want("again", "")
	c.Hear(late[2])
	want("the third part", "2: 20/1 ")
	c.Tick()
	want("a Tick", "2: 20/1 ")
	c.Hear(less[0])
	want("an older one", "")
	c.Hear(more[0])
	want("a newer one", "3: 30/1 ")
	c.Hear(late[1])
	want("the first one again", "")
	for range 20 {
		c.Tick()
		if got := asks(c); got != "3: 30/1 " {
			t.Error(got)
		}
		// It would want to lead.
		c.Hear(msg.Msg{Kind: msg.Feed, From: 2, To: 1, Term: c.Term(), Index: 99, Last: 99})
		c.Out()
	}
	c.Tick()
	want("given up", "")
	c.Hear(less[0])
	want("the older one", "3: 15/1 ")
	// The leader's is taken in any case.
	for _, m := range parts(2, 14, 6, text) {
		m.Term = c.Term()
		c.Hear(m)
	}
	want("the leader's", "2: 14/1 2: 14/2 2: 14/3 ")
	if i, data, e := c.Shot(); i != 14 || data != text || e != api.OK || c.First() != 15 {
		t.Error(face(c))
	}
}

// Rule 1, P15.5: two replicas that give snapshots at the same time do not keep each other from being taken.
func TestReceiveFromTwo(t *testing.T) {
	text := strings.Repeat("x", 1500)
	for _, lead := range []int{0, 2, 3} {
		c := opened(t, usual(t), 1, 3)
		if lead != 0 {
			c.Hear(msg.Msg{Kind: msg.Feed, From: lead, To: 1, Term: 7, Index: 99, Last: 99})
			c.Out()
		}
		have := map[int][]msg.Msg{2: parts(2, 20, 6, text), 3: parts(3, 30, 6, text)}
		way := []msg.Msg{have[2][0], have[3][0]}
		for count := 0; len(way) > 0; count++ {
			if count > 30 {
				t.Fatal("no end", lead)
			}
			c.Hear(way[0])
			way = way[1:]
			for _, m := range c.Out() {
				if m.Kind == msg.ShotAsk {
					way = append(way, have[m.To][m.Part])
				}
			}
		}
		want := map[int]int{0: 30, 2: 20, 3: 30}[lead]
		if i, data, e := c.Shot(); i != want || data != text || e != api.OK {
			t.Error(lead, i, e)
		}
	}
}

// P15.5: chunks are repaired one after the other; and a replica whose snapshot is missing asks for one.
func TestRepairChunks(t *testing.T) {
	d := usual(t)
	for b := 4; b < 7; b++ {
		d.Lose(b)
	}
	c := opened(t, d, 1, 3)
	c.Hear(parts(2, 8, 3, strings.Repeat("t", 900))[0])
	if got := asks(c); got != "" {
		t.Error(got)
	}
	list := parts(3, 8, 3, strings.Repeat("s", 900))
	c.Tick()
	if got := asks(c); got != "2: 8/0 " {
		t.Error(got)
	}
	c.Tick()
	if got := asks(c); got != "3: 8/0 " {
		t.Error(got)
	}
	for k, want := range []string{"3: 8/1 ", "3: 8/2 ", ""} {
		bad := list[k]
		bad.Data = "t" + bad.Data[1:]
		c.Hear(bad)
		if got := asks(c); got != "" || c.Clean() {
			t.Error(k, got)
		}
		c.Hear(list[k])
		if got := asks(c); got != want || c.Clean() != (k == 2) {
			t.Error(k, got)
		}
	}
	if i, data, e := c.Shot(); i != 8 || data != strings.Repeat("s", 900) || e != api.OK {
		t.Error(i, data, e)
	}
	d = usual(t)
	d.Lose(2)
	d.Lose(3)
	c = opened(t, d, 1, 3)
	for k := range 4 {
		c.Tick()
		if got := asks(c); got != fmt.Sprintf("%d: 0/0 ", 2+k%2) {
			t.Error(got)
		}
	}
	// One that does not reach far enough is of no use.
	c.Hear(parts(2, 7, 3, "seven")[0])
	if l, ok := c.shots.List(); ok || c.Clean() {
		t.Error(l, face(c))
	}
	c.Hear(parts(2, 8, 3, "eight")[0])
	if i, data, e := c.Shot(); i != 8 || data != "eight" || e != api.OK || !c.Clean() || c.Last() != 11 {
		t.Error(face(c))
	}
}

// P15.4: a snapshot whose parts do not make up its List is not taken.
func TestNoSuchList(t *testing.T) {
	for _, l := range []chunk.List{
		{Index: 20, Term: 6, Bytes: 4, Sums: []sum.Sum{sum.Of("abc")}},
		{Index: 20, Term: 6, Bytes: 403, Sums: []sum.Sum{sum.Of("abc")}},
		{Index: 20, Term: 0, Bytes: 3, Sums: []sum.Sum{sum.Of("abc")}},
		{Index: 20, Term: 6, Bytes: 3},
		{Index: api.MaxTime + 1, Term: 6, Bytes: 3, Sums: []sum.Sum{sum.Of("abc")}},
	} {
		c := opened(t, usual(t), 1, 3)
		was := face(c)
		c.Hear(msg.Msg{Kind: msg.ShotGive, From: 2, To: 1, Term: 7, List: l, Data: "abc"})
		if face(c) != was {
			t.Error(l, face(c))
		}
	}
}

// P15.4, P15.5: a snapshot that another replica has, or has had, tells what is committed.
func TestLearnsWhatIsCommitted(t *testing.T) {
	for _, kind := range []msg.Kind{msg.ShotAsk, msg.ShotGive} {
		for _, x := range [][]int{{8, 3, 8}, {9, 3, 9}, {10, 5, 10}, {11, 5, 11}, {11, 6, 8}, {10, 4, 8}, {12, 5, 8}, {3, 1, 8}, {12, 0, 8}, {0, 0, 8}} {
			c := opened(t, usual(t), 1, 3)
			l := chunk.Of(x[0], x[1], "abc")
			c.Hear(msg.Msg{Kind: kind, From: 2, To: 1, Term: 7, Index: x[0], List: l})
			if c.Commit() != x[2] {
				t.Error(kind, x, c.Commit())
			}
		}
	}
}

// P15.6: a replica that needs a snapshot and entries has all of it after a round, so that what was proposed is committed.
func TestCommittedWithOneThatWasAway(t *testing.T) {
	w := newWorld(t, 3, 1)
	w.off[3] = true
	w.led(60)
	w.add(20)
	for k := 1; k <= 2; k++ {
		if e := w.cores[k].Compact(9, w.shot(9)); e != api.OK {
			t.Fatal(e)
		}
	}
	lead := w.leader()
	w.off[3], w.off[3-lead] = false, true
	i, e := w.propose(lead)
	w.collect(lead)
	w.round()
	if e != api.OK || w.cores[lead].Commit() < i || w.leader() != lead {
		w.fail("%d is not committed, %d", i, e)
	}
	if w.most > 50 {
		t.Error("messages:", w.most)
	}
}
