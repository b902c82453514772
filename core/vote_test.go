package core

import (
	"math"
	"slices"
	"testing"

	"orchard/api"
	"orchard/chunk"
	"orchard/dev"
	"orchard/head"
	"orchard/msg"
	"orchard/pith"
	"orchard/plog"
)

// votes returns for whom a replica votes by what it has to send.
func votes(t *testing.T, c *Core) []int {
	t.Helper()
	var list []int
	for _, m := range c.Out() {
		if m.Kind == msg.VoteGive && m.Ok {
			if m.From != c.me || m.Term != c.Term() {
				t.Error("vote", m)
			}
			list = append(list, m.To)
		}
	}
	return list
}

// asked returns a VoteAsk.
func asked(from, to, term, index, logTerm int) msg.Msg {
	return msg.Msg{Kind: msg.VoteAsk, From: from, To: to, Term: term, Index: index, LogTerm: logTerm}
}

// stored returns the head that a device has.
func stored(t *testing.T, d *dev.Device) head.Head {
	t.Helper()
	s, e := head.Open(d.Crash())
	if e != api.OK {
		t.Fatal(e)
	}
	return s.Head()
}

// voteCase is a VoteAsk, and whether a vote is given for it.
type voteCase struct {
	term, index, logTerm int
	want                 bool
}

// P15.2: a vote is given for a log that is not older than the own one, and in no other case.
func TestVote(t *testing.T) {
	list := []voteCase{
		// the terms: below, its own, above
		{6, 11, 5, false}, {0, 99, 99, false}, {7, 11, 5, true}, {8, 11, 5, true}, {100, 11, 5, true},
		{api.MaxTime, 11, 5, true}, {pith.Most, 11, 5, true},
		// the last entry: 11 of term 5
		{8, 10, 5, false}, {8, 12, 5, true}, {8, 0, 5, false}, {8, 0, 6, true}, {8, 11, 4, false},
		{8, 12, 4, false}, {8, pith.Most, 4, false}, {8, 8, 3, false}, {8, 0, 0, false}, {8, 10, 6, true},
		{7, 10, 5, false}, {7, 12, 5, true}, {7, 0, 6, true}, {7, pith.Most, 4, false},
	}
	for _, x := range list {
		for _, from := range []int{2, 3} {
			d := usual(t)
			c := opened(t, d, 1, 3)
			c.Hear(asked(from, 1, x.term, x.index, x.logTerm))
			given := votes(t, c)
			if slices.Contains(given, from) != x.want || len(given) > 1 {
				t.Errorf("%v of %d: votes %v", x, from, given)
			}
			if c.Term() != max(7, x.term) || c.Role() != Follower {
				t.Errorf("%v: term %d, role %d", x, c.Term(), c.Role())
			}
			vote := 0
			if x.want {
				vote = from
			}
			if h := stored(t, d); h != (head.Head{Term: max(7, x.term), Vote: vote, First: 9, Base: 3}) {
				t.Errorf("%v of %d: %v", x, from, h)
			}
		}
	}
}

// P15.2: the last entry of a log that is empty is the one that it continues from.
func TestVoteOfEmptyLog(t *testing.T) {
	for _, x := range []voteCase{{7, 8, 3, true}, {7, 9, 3, true}, {7, 7, 3, false}, {7, 9, 2, false}, {7, 1, 4, true}} {
		c := opened(t, disk(t, head.Head{Term: 7, First: 9, Base: 3}, "s"), 2, 5)
		c.Hear(asked(4, 2, x.term, x.index, x.logTerm))
		if (len(votes(t, c)) > 0) != x.want {
			t.Error(x)
		}
	}
	for _, x := range []voteCase{{1, 0, 0, true}, {1, 5, 0, true}, {1, 0, 1, true}, {1, 5, 1, true}} {
		c := opened(t, dev.New(Blocks), 2, 5)
		c.Hear(asked(4, 2, x.term, x.index, x.logTerm))
		if (len(votes(t, c)) > 0) != x.want {
			t.Error(x)
		}
	}
}

// P15.2: one vote in a term, also after a failure of the power.
func TestVoteOnce(t *testing.T) {
	d := usual(t)
	c := opened(t, d, 1, 5)
	hear := func(from, term int, want ...int) {
		t.Helper()
		c.Hear(asked(from, 1, term, 20, 6))
		if given := votes(t, c); !slices.Equal(given, want) {
			t.Errorf("VoteAsk of %d in %d: votes %v, want %v", from, term, given, want)
		}
	}
	hear(2, 7, 2)
	for _, k := range []int{3, 4, 5} {
		hear(k, 7)
	}
	d = d.Crash()
	c = opened(t, d, 1, 5)
	for _, k := range []int{3, 4, 5} {
		hear(k, 7)
	}
	hear(4, 8, 4)
	hear(3, 8)
	hear(2, 7)
	hear(2, 8)
	// Who adopts a term without voting can vote in it later.
	c.Hear(asked(2, 1, 9, 1, 1))
	if given := votes(t, c); len(given) > 0 || c.Term() != 9 {
		t.Error(given, c.Term())
	}
	hear(3, 9, 3)
	hear(2, 9)
	// One that asks again gets no other answer, and nobody else gets the vote.
	c.Hear(asked(3, 1, 9, 20, 6))
	for _, k := range votes(t, c) {
		if k != 3 {
			t.Error(k)
		}
	}
}

// P15.2: a vote is durable before it is given, whenever the power fails.
func TestVoteWithoutPower(t *testing.T) {
	for turns := range 8 {
		for fate := dev.Lost; fate <= dev.Torn; fate++ {
			d := usual(t)
			c := opened(t, d, 1, 3)
			d.Fall(turns)
			c.Hear(asked(2, 1, 8, 20, 6))
			given := votes(t, c)
			d = d.Crash(fate, fate)
			h := stored(t, d)
			if len(given) > 0 && (h.Vote != 2 || h.Term != 8) || c.Err() != api.OK && len(given) > 0 {
				t.Error(turns, fate, given, h)
			}
			c = opened(t, d, 1, 3)
			c.Hear(asked(3, 1, 8, 20, 6))
			if again := votes(t, c); len(given) > 0 && len(again) > 0 {
				t.Error(turns, fate, given, again)
			}
		}
	}
}

// spoils are what makes a replica that is as usual not Clean.
func spoils() map[string]func(d *dev.Device) {
	return map[string]func(d *dev.Device){
		"entry":          func(d *dev.Device) { d.Lose(134 + 10) },
		"last entry":     func(d *dev.Device) { d.Flip(134+11, 50, 1) },
		"entry and mark": func(d *dev.Device) { d.Lose(134 + 10); d.Lose(198 + 10) },
		"next":           func(d *dev.Device) { d.Lose(134 + 12); d.Lose(198 + 12) },
		"chunk":          func(d *dev.Device) { d.Lose(5) },
		"flipped chunk":  func(d *dev.Device) { d.Flip(6, 60, 1) },
		"both Lists":     func(d *dev.Device) { d.Lose(2); d.Lose(3) },
	}
}

// P15.2: a replica that is not Clean does not vote, but adopts terms; and it does not want to lead.
func TestUncleanDoesNotVote(t *testing.T) {
	for name, spoil := range spoils() {
		d := usual(t)
		spoil(d)
		c := opened(t, d, 1, 3)
		if c.Clean() {
			t.Fatal(name)
		}
		for term := 7; term < 12; term++ {
			c.Hear(asked(2, 1, term, 99, 99))
			if given := votes(t, c); len(given) > 0 || c.Term() != term {
				t.Error(name, term, given, c.Term())
			}
		}
		for range 200 {
			c.Tick()
			for _, m := range c.Out() {
				if m.Kind == msg.VoteAsk || m.Kind == msg.Feed {
					t.Fatal(name, m)
				}
			}
		}
		if c.Role() != Follower || c.Term() != 11 {
			t.Error(name, c.Role(), c.Term())
		}
	}
}

// P15.2: a replica that finds damage while it runs does not vote from then on.
func TestScrubbedDoesNotVote(t *testing.T) {
	d := usual(t)
	c := opened(t, d, 1, 3)
	d.Lose(134 + 10)
	if !c.Clean() {
		t.Error("it was not read")
	}
	c.Scrub()
	c.Hear(asked(2, 1, 9, 99, 99))
	if given := votes(t, c); len(given) > 0 || c.Clean() || c.Term() != 9 {
		t.Error(given, c.Clean(), c.Term())
	}
}

// P15.2: what Hear ignores changes nothing, and nothing is sent.
func TestHearIgnores(t *testing.T) {
	good := asked(2, 1, 9, 99, 99)
	wrong := map[string]func(m *msg.Msg){
		"Kind 0":        func(m *msg.Msg) { m.Kind = 0 },
		"Kind 9":        func(m *msg.Msg) { m.Kind = 9 },
		"Kind below":    func(m *msg.Msg) { m.Kind = math.MinInt },
		"To 0":          func(m *msg.Msg) { m.To = 0 },
		"To another":    func(m *msg.Msg) { m.To = 3 },
		"To -1":         func(m *msg.Msg) { m.To = -1 },
		"From itself":   func(m *msg.Msg) { m.From = 1 },
		"From 0":        func(m *msg.Msg) { m.From = 0 },
		"From -1":       func(m *msg.Msg) { m.From = -1 },
		"From n + 1":    func(m *msg.Msg) { m.From = 4 },
		"From most":     func(m *msg.Msg) { m.From = pith.Most },
		"Term above":    func(m *msg.Msg) { m.Term = pith.Most + 1 },
		"Index below":   func(m *msg.Msg) { m.Index = -1 },
		"State 4":       func(m *msg.Msg) { m.State = 4 },
		"five entries":  func(m *msg.Msg) { m.Entries = entries(1, 1, 1, 1, 1, 1) },
		"long entry":    func(m *msg.Msg) { m.Entries = []plog.Entry{{Index: 1, Term: 1, Data: string(make([]byte, 489))}} },
		"long Data":     func(m *msg.Msg) { m.Data = string(make([]byte, 401)) },
		"List with sum": func(m *msg.Msg) { m.List = chunk.Of(1, 1, string(make([]byte, 65*400))) },
	}
	for kind := msg.VoteAsk; kind <= msg.ShotGive; kind++ {
		for name, change := range wrong {
			d := usual(t)
			c := opened(t, d, 1, 3)
			was, held := face(c), blocks(d)
			m := good
			m.Kind = kind
			change(&m)
			c.Hear(m)
			if face(c) != was || blocks(d) != held || len(c.Out()) > 0 {
				t.Error(kind, name, face(c))
			}
			// It waits for a leader no longer and no shorter than without that.
			for range 11 {
				c.Tick()
			}
			if c.Role() != Candidate {
				t.Error(kind, name, "waits")
			}
		}
	}
	c := opened(t, usual(t), 1, 3)
	c.Hear(good)
	if given := votes(t, c); len(given) != 1 {
		t.Error(given)
	}
}

// P15.2: what a replica sends when it wants to lead, and what it has stored then.
func TestWantsToLead(t *testing.T) {
	list := map[*dev.Device]voteCase{
		dev.New(Blocks): {1, 0, 0, true},
		usual(t):        {8, 11, 5, true},
		disk(t, head.Head{Term: 7, Vote: 2, First: 9, Base: 3}, "s"): {8, 8, 3, true},
	}
	for d, x := range list {
		c := opened(t, d, 3, 5)
		for range 30 {
			if c.Tick(); c.Role() == Candidate {
				break
			}
		}
		got := c.Out()
		for _, k := range []int{1, 2, 4, 5} {
			m := asked(3, k, x.term, x.index, x.logTerm)
			if !slices.ContainsFunc(got, m.Same) {
				t.Errorf("no %v in %v", m, got)
			}
		}
		h := stored(t, d)
		if len(got) != 4 || c.Role() != Candidate || c.Term() != x.term || c.Lead() != 0 || h.Term != x.term || h.Vote != 3 {
			t.Error(got, face(c), h)
		}
		// Nobody else gets its vote in this term.
		c.Hear(asked(1, 3, x.term, 99, 99))
		if given := votes(t, c); len(given) > 0 {
			t.Error(given)
		}
	}
}

// P15.2, P15.3: who has the votes of a majority leads; its first entry is empty.
func TestElected(t *testing.T) {
	for _, n := range []int{3, 5, 7} {
		c := opened(t, usual(t), 1, n)
		for c.Role() == Follower {
			c.Tick()
		}
		vote := msg.Msg{Kind: msg.VoteGive, To: 1, Term: 8, Ok: true}
		hear := func(from int, change func(m *msg.Msg)) {
			m := vote
			m.From = from
			change(&m)
			c.Hear(m)
		}
		same := func(m *msg.Msg) {}
		// As many votes as are not enough; some of them twice, late, or refused.
		for k := 2; k <= (n-1)/2; k++ {
			hear(k, same)
			hear(k, same)
		}
		hear(n, func(m *msg.Msg) { m.Ok = false })
		hear(n, func(m *msg.Msg) { m.Term = 7 })
		hear(1, same)
		if c.Role() != Candidate || c.Last() != 11 {
			t.Fatal(n, face(c))
		}
		hear(n, same)
		x, state := c.Entry(12)
		if c.Role() != Leader || c.Lead() != 1 || c.Last() != 12 || x.Term != 8 || x.Data != "" || state != plog.Good || c.Commit() != 8 {
			t.Error(n, face(c))
		}
	}
}

// P15.2: votes of an earlier term, or given before a failure of the power, do not count.
func TestOldVotes(t *testing.T) {
	d := usual(t)
	c := opened(t, d, 1, 3)
	for c.Role() == Follower {
		c.Tick()
	}
	old := msg.Msg{Kind: msg.VoteGive, From: 2, To: 1, Term: 8, Ok: true}
	for c.Term() == 8 {
		c.Tick()
	}
	c.Hear(old)
	if c.Role() != Candidate || c.Term() != 9 {
		t.Error(face(c))
	}
	c = opened(t, d.Crash(), 1, 3)
	old.Term = 9
	c.Hear(old)
	if c.Role() != Follower || c.Term() != 9 {
		t.Error(face(c))
	}
}

// P15.2: a leader that finds damage does not propose any more, and does not lead from its next Tick on.
func TestUncleanLeader(t *testing.T) {
	for b, find := range map[int]func(c *Core){
		134 + 5: (*Core).Scrub,
		134 + 6: func(c *Core) { c.Entry(6) },
		134 + 7: func(c *Core) {
			c.Hear(msg.Msg{Kind: msg.Ask, From: 2, To: 1, Entries: []plog.Entry{{Index: 7, Term: 1}}})
		},
	} {
		w := settled(t, 3)
		c := w.cores[1]
		w.devs[1].Lose(b)
		if !c.Clean() {
			t.Error(b, "it was not read")
		}
		find(c)
		if c.Clean() {
			t.Error(b, "clean")
		}
		if i, e := c.Propose("x"); i != 0 || e != api.ErrLeader {
			t.Error(b, i, e)
		}
		c.Tick()
		if c.Role() == Leader || c.Lead() != 0 || c.Term() != 1 {
			t.Error(b, face(c))
		}
		w.until(150, "level", w.level)
	}
}

// P15.2: a candidate that finds damage does not become a leader, and one that could find some does not ask for votes.
func TestUncleanCandidate(t *testing.T) {
	d := usual(t)
	c := opened(t, d, 1, 3)
	for c.Role() == Follower {
		c.Tick()
	}
	d.Lose(134 + 9)
	c.Entry(9)
	c.Hear(msg.Msg{Kind: msg.VoteGive, From: 2, To: 1, Term: 8, Ok: true})
	if c.Role() == Leader || c.Last() != 11 {
		t.Error(face(c))
	}
	for _, b := range []int{134 + 11, 4} {
		d := usual(t)
		c := opened(t, d, 1, 3)
		d.Lose(b)
		for range 100 {
			c.Tick()
		}
		if c.Role() != Follower || c.Term() != 7 || c.Clean() {
			t.Error(b, face(c))
		}
	}
}

// P15.2, P15.4: a leader or a candidate that hears of a newer term follows.
func TestNewerTerm(t *testing.T) {
	w := settled(t, 3)
	c := w.cores[1]
	last := c.Last()
	c.Hear(asked(2, 1, 5, last, 1))
	if given := votes(t, c); c.Role() != Follower || c.Term() != 5 || c.Lead() != 0 || !slices.Equal(given, []int{2}) {
		t.Error(face(c), given)
	}
	c = w.cores[2]
	for c.Role() != Candidate {
		c.Tick()
	}
	c.Out()
	c.Hear(asked(3, 2, 9, last, 1))
	if given := votes(t, c); c.Role() != Follower || c.Term() != 9 || !slices.Equal(given, []int{3}) {
		t.Error(face(c), given)
	}
}

// P15.2: who could not append a first entry, or whose term cannot grow, does not want to lead.
func TestCannotLead(t *testing.T) {
	full := disk(t, head.Head{Term: 7, First: 1}, "", entries(1, slices.Repeat([]int{4}, 64)...)...)
	for _, d := range []*dev.Device{full, disk(t, head.Head{Term: api.MaxTime, First: 1}, ""), disk(t, head.Head{Term: pith.Most, First: 1}, "")} {
		c := opened(t, d, 1, 3)
		term := c.Term()
		for range 100 {
			c.Tick()
		}
		if c.Role() != Follower || c.Term() != term || c.Err() != api.OK || len(c.Out()) > 0 {
			t.Error(face(c))
		}
	}
	c := opened(t, disk(t, head.Head{Term: api.MaxTime - 1, First: 1}, ""), 1, 3)
	for range 100 {
		c.Tick()
	}
	if c.Role() != Candidate || c.Term() != api.MaxTime {
		t.Error(face(c))
	}
	c.Hear(msg.Msg{Kind: msg.VoteGive, From: 2, To: 1, Term: api.MaxTime, Ok: true})
	if c.Role() != Leader || c.Err() != api.OK {
		t.Error(face(c))
	}
}
