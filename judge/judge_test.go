package judge

import (
	"math"
	"strings"
	"testing"

	"orchard/api"
	"orchard/op"
	"orchard/pith"
	"orchard/replica"
	"orchard/watch"
)

// errnos are errors that an answer may have, but OK.
var errnos = []api.Errno{-1, api.ErrArg, api.ErrForm, api.ErrLong, api.ErrFull, api.ErrDown, api.ErrBad, api.ErrNone, api.ErrGap,
	api.ErrPath, api.ErrNode, api.ErrExists, api.ErrKids, api.ErrVersion, api.ErrEphem, api.ErrQuota, api.ErrSession, api.ErrOld,
	api.ErrLeader, api.ErrUnavail, 22, 1 << 40}

// P20.1: a new judge knows nothing.
func TestNew(t *testing.T) {
	j, o := New(), New()
	is(t, j, 0, 0, false)
	if !o.Commit(1, "") || o.Commit(1, "x") {
		t.Error("Commit")
	}
	is(t, j, 0, 0, false)
	is(t, o, 1, 0, true)
}

// The chapter's example.
func TestExample(t *testing.T) {
	j := New()
	if !j.Commit(1, "a") || j.Commit(1, "b") || j.Wrong() != api.ErrBad {
		t.Error(j.Wrong())
	}
}

// P20.1: Commit of the same text, and of another one; the first one stays.
func TestCommit(t *testing.T) {
	texts := []string{"", "a", "b", "a\x00", strings.Repeat("x", 100000)}
	for _, i := range []int{1, 2, 3, 100, 1 << 40, math.MaxInt, 0, -1, math.MinInt} {
		for a, first := range texts {
			j := New()
			for range 3 {
				if !j.Commit(i, first) {
					t.Error(i, a)
				}
			}
			known := 0
			if i == 1 {
				known = 1
			}
			is(t, j, known, 0, false)
			for b, text := range texts {
				say(t, j, j.Commit(i, text), a == b, i, a, b)
				is(t, j, known, 0, b > 0 || b != a)
				say(t, j, j.Commit(i, first), true, i, a, b)
			}
			is(t, j, known, 0, true)
		}
	}
}

// P20.1: Known, in any order, and with gaps.
func TestKnown(t *testing.T) {
	j := New()
	for _, x := range []struct{ i, known int }{
		{3, 0}, {5, 0}, {2, 0}, {1, 3}, {1, 3}, {0, 3}, {-1, 3}, {7, 3}, {9, 3}, {4, 5}, {6, 7}, {7, 7}, {math.MaxInt, 7}, {8, 9},
		{10, 10}, {12, 10},
	} {
		if !j.Commit(x.i, strings.Repeat("x", x.i&7)) {
			t.Error(x)
		}
		is(t, j, x.known, 0, false)
	}
	// From the last one to the first one, and again.
	j = New()
	for range 2 {
		for i := 100; i > 1; i-- {
			j.Commit(i, "")
		}
		j.Commit(1, "")
		is(t, j, 100, 0, false)
	}
	// One that is wrong is no more known than before.
	j.Commit(102, "a")
	j.Commit(102, "b")
	is(t, j, 100, 0, true)
	j.Commit(101, "")
	is(t, j, 102, 0, true)
}

// P20.1: Wrong, for ever, whatever is said later.
func TestWrong(t *testing.T) {
	h := newHistory(t, open(1), set(1, "/", "a"), look(1, "/", false, false), set(1, "/", "b"))
	for _, f := range []func(j *Judge) bool{
		func(j *Judge) bool { return j.Commit(2, "x") },
		func(j *Judge) bool { return j.Answer(h.cmds[1], h.reply(2, 4), 2) },
		func(j *Judge) bool { return j.Answer(h.cmds[1], h.reply(2, 1), 0) },
		func(j *Judge) bool { return j.Answer(h.cmds[1], h.reply(4, 4), 0) },
		func(j *Judge) bool { return j.Read("/", h.node("/", 3), 4) },
		func(j *Judge) bool { return j.Read("/a", h.node("/", 3), 0) },
		func(j *Judge) bool { return j.Heard(1, nil, 4) },
		func(j *Judge) bool { return j.Heard(1, make([]watch.Event, 2), 0) },
	} {
		j := h.judge(t, 4)
		say(t, j, f(j), false)
		say(t, j, j.Commit(2, h.texts[1]), true)
		say(t, j, j.Answer(h.cmds[1], h.reply(2, 4), 0), true)
		say(t, j, j.Read("/", h.node("/", 3), 0), true)
		say(t, j, j.Heard(1, h.states[4].Events(1), 4), true)
		if j.Wrong() != api.ErrBad {
			t.Error("not wrong any more")
		}
	}
}

// P20.2: answers that are not compared, whatever they are.
func TestAnswerOfOthers(t *testing.T) {
	h := newHistory(t, open(1), set(1, "/", "a"), closed(1))
	results := append([]op.Result{{}, {When: -1}, {When: 9}, {E: api.ErrNode, When: 1}}, h.results...)
	for kind := op.Empty - 2; kind <= op.Sync+2; kind++ {
		for _, e := range append([]api.Errno{api.OK}, errnos...) {
			if e == api.OK && kind >= op.Update && kind <= op.Sync {
				continue
			}
			for known := range 4 {
				j := h.judge(t, known)
				for _, r := range results {
					for at := -1; at < 5; at++ {
						for ahead := -1; ahead < 5; ahead++ {
							c := op.Cmd{Kind: kind, Session: 1, Req: 1}
							if !j.Answer(c, replica.Reply{E: e, Result: r, At: at}, ahead) {
								t.Fatal(c, e, r, at, ahead)
							}
						}
					}
				}
				is(t, j, known, 0, false)
			}
		}
	}
}

// P20.2: the answers to commands of each Kind, with each When, ahead and At, and each Known.
func TestAnswerWhen(t *testing.T) {
	h := newHistory(t, open(1), set(1, "/", "a"), look(1, "/", false, false), synced(1), create(1, "/"), set(1, "/", "b"), closed(1))
	for when := 1; when <= 7; when++ {
		for known := range 8 {
			for at := -1; at <= 9; at++ {
				for ahead := -1; ahead <= 9; ahead++ {
					j, c := h.judge(t, known), h.cmds[when-1]
					compared := c.Kind != op.Open && c.Kind != op.Close
					want := !compared || when > ahead && when <= at
					say(t, j, j.Answer(c, h.reply(when, at), ahead), want, c, known, at, ahead)
					told := 0
					if compared && want && when <= known {
						told = when
					}
					is(t, j, known, told, !want)
				}
			}
		}
	}
}

// P20.2: a When that is none.
func TestAnswerWhenNone(t *testing.T) {
	h := newHistory(t, open(1), set(1, "/", "a"))
	c := h.cmds[1]
	for _, when := range []int{0, -1, -16, -17, -100, math.MinInt} {
		for _, ahead := range []int{0, 1, when, math.MaxInt} {
			j := h.judge(t, 2)
			say(t, j, j.Answer(c, replica.Reply{Result: op.Result{When: when}, At: 2}, ahead), false, when, ahead)
			is(t, j, 2, 0, true)
		}
		if when == math.MinInt {
			continue
		}
		j := h.judge(t, 2)
		say(t, j, j.Answer(c, replica.Reply{Result: op.Result{When: when}, At: 2}, when-1), false, when)
		is(t, j, 2, 0, true)
	}
	j := h.judge(t, 2)
	for _, when := range []int{3, 4, 1 << 50, math.MaxInt} {
		say(t, j, j.Answer(c, replica.Reply{Result: op.Result{When: when}, At: math.MaxInt}, 0), true, when)
	}
	is(t, j, 2, 0, false)
}

// P20.2: the entry must be the command, in all that it consists of.
func TestAnswerEntry(t *testing.T) {
	o := op.Op{Does: op.Set, Path: "/", Data: "a", Version: -1}
	c := op.Cmd{Kind: op.Update, Session: 1, Req: 2, Noted: 3, Ops: []op.Op{o, o}, Path: "/p"}
	h := newHistory(t, open(1), c)
	a := h.reply(2, 2)
	j := h.judge(t, 2)
	say(t, j, j.Answer(c, a, 1), true)
	changes := []func(c *op.Cmd){
		func(c *op.Cmd) { c.Kind = op.Sync },
		func(c *op.Cmd) { c.Kind = op.Watch },
		func(c *op.Cmd) { c.Session = 2 },
		func(c *op.Cmd) { c.Session = 0 },
		func(c *op.Cmd) { c.Session = -1 },
		func(c *op.Cmd) { c.Session = pith.Most + 1 },
		func(c *op.Cmd) { c.Req = 1 },
		func(c *op.Cmd) { c.Req = math.MinInt },
		func(c *op.Cmd) { c.Noted = 2 },
		func(c *op.Cmd) { c.Ops = nil },
		func(c *op.Cmd) { c.Ops = c.Ops[:1] },
		func(c *op.Cmd) { c.Ops = []op.Op{o, o, o} },
		func(c *op.Cmd) { c.Ops = []op.Op{o, o, o, o, o} },
		func(c *op.Cmd) { c.Ops = []op.Op{{}, o} },
		func(c *op.Cmd) { c.Ops = []op.Op{o, {Does: op.Set, Path: "/", Data: "b", Version: -1}} },
		func(c *op.Cmd) { c.Path = "/q" },
		func(c *op.Cmd) { c.Path = strings.Repeat("x", 70000) },
		func(c *op.Cmd) { c.Kids = true },
		func(c *op.Cmd) { c.Once = true },
	}
	for i, change := range changes {
		j, d := h.judge(t, 2), c
		change(&d)
		say(t, j, j.Answer(d, a, 1), false, i, d)
		is(t, j, 2, 2, true)
	}
	// Nor is it one that encodes no command, or the one at another place.
	for _, text := range []string{"", "x", h.texts[0], h.texts[1] + "\x00", h.texts[1][1:]} {
		j := New()
		j.Commit(1, h.texts[0])
		j.Commit(2, text)
		say(t, j, j.Answer(c, a, 1), false, text)
		say(t, j, j.Answer(op.Cmd{Kind: op.Sync}, a, 1), false, text)
		is(t, j, 2, 2, true)
	}
	j = h.judge(t, 2)
	a.Result.When = 1
	say(t, j, j.Answer(c, a, 0), false)
}

// P20.2: the Result must be the one that is kept, in all that it consists of, also if it is an error.
func TestAnswerResult(t *testing.T) {
	h := newHistory(t, open(1), create(1, "/a"), create(1, "/a"),
		op.Made(1, 0, op.Op{Does: op.Create, Path: "/b", Serial: true}, op.Op{Does: op.Set, Path: "/a", Version: -1}),
		op.Made(1, 0, op.Op{Does: op.Check, Path: "/a", Version: -1}, op.Op{Does: op.Delete, Path: "/q", Version: -1}),
		look(1, "a", false, false), synced(1))
	for i := 2; i <= 7; i++ {
		j := h.judge(t, 7)
		say(t, j, j.Answer(h.cmds[i-1], h.reply(i, 7), 1), true, i)
		is(t, j, 7, i, false)
		for n, change := range []func(r *op.Result){
			func(r *op.Result) { r.E++ },
			func(r *op.Result) { r.E = api.ErrUnavail },
			func(r *op.Result) { r.At++ },
			func(r *op.Result) { r.At-- },
			func(r *op.Result) { r.Outs = append([]op.Out{{}}, r.Outs...) },
			func(r *op.Result) { r.Outs = append(r.Outs[:len(r.Outs):len(r.Outs)], op.Out{Path: "/a"}) },
			func(r *op.Result) { r.When = 2 + (i-1)%6 },
			func(r *op.Result) { r.When = 2 + (i-3+6)%6 },
		} {
			j, a := h.judge(t, 7), h.reply(i, 7)
			change(&a.Result)
			say(t, j, j.Answer(h.cmds[i-1], a, 1), false, i, n, a)
		}
	}
	a := h.reply(4, 7)
	for _, outs := range [][]op.Out{nil, a.Result.Outs[:1], a.Result.Outs[1:], {{Path: "/b0000000000"}, {Path: "/a"}},
		{{Path: "/b0000000001"}, {Path: "/a", Version: 1}}} {
		a.Result.Outs = outs
		j := h.judge(t, 7)
		say(t, j, j.Answer(h.cmds[3], a, 1), false, outs)
	}
	// What else is in an answer is not compared.
	j := h.judge(t, 7)
	a = h.reply(4, 7)
	a.Node.Data, a.Kids, a.Lead, a.Events = "x", []string{"x"}, 99, make([]watch.Event, 3)
	say(t, j, j.Answer(h.cmds[3], a, 1), true)
}

// P20.2: a request that was committed twice is executed once: the answer is from the first place.
func TestAnswerTwice(t *testing.T) {
	c := op.Made(1, 5, op.Op{Does: op.Create, Path: "/a"})
	h := newHistory(t, open(1), c, c, c)
	j := h.judge(t, 4)
	say(t, j, j.Answer(c, h.reply(2, 4), 1), true)
	say(t, j, j.Answer(c, h.reply(4, 4), 1), true)
	is(t, j, 4, 2, false)
	for _, when := range []int{3, 4} {
		j, a := h.judge(t, 4), h.reply(2, 4)
		a.Result.When = when
		say(t, j, j.Answer(c, a, 1), false, when)
	}
}

// P20.2: the session does not exist in the state of When: then the Result is not compared.
func TestAnswerWithoutSession(t *testing.T) {
	h := newHistory(t, open(1), open(2), look(1, "/", false, false), look(1, "/", true, false))
	// The session's own update gives it one event too many.
	for range 5 {
		h.add(t, set(2, "/", "x"))
	}
	h.add(t, set(1, "/", "y"))
	last := len(h.texts)
	if h.states[last].Has(1) || !h.states[last-1].Has(1) {
		t.Fatal("the session has not ended")
	}
	j := h.judge(t, last)
	a := h.reply(last, last)
	say(t, j, j.Answer(h.cmds[last-1], a, last-1), true)
	a.Result.E, a.Result.Outs = api.ErrNode, nil
	say(t, j, j.Answer(h.cmds[last-1], a, last-1), true)
	is(t, j, last, last, false)
	say(t, j, j.Answer(h.cmds[last-2], replica.Reply{Result: op.Result{When: last}, At: last}, 0), false, "another command")
	// A request of a session that was not open.
	h = newHistory(t, set(1, "/", "x"), open(1), set(1, "/", "x"))
	if h.results[0].E != api.ErrSession {
		t.Fatal(h.results[0])
	}
	j = h.judge(t, 3)
	say(t, j, j.Answer(h.cmds[0], h.reply(1, 3), 0), true)
	// One that is opened again has kept nothing of that request.
	c := op.Made(1, 1)
	h = newHistory(t, open(1), c, closed(1), open(1), op.Made(1, 2))
	j = h.judge(t, 5)
	say(t, j, j.Answer(c, h.reply(2, 5), 0), true)
	say(t, j, j.Answer(h.cmds[4], h.reply(5, 5), 0), true)
}

// P20.2: the session exists, but has not kept a result of the request: its Req was below the last one, or is none.
func TestAnswerNotKept(t *testing.T) {
	for _, req := range []int{1, 2, 3, 4} {
		c := op.Cmd{Kind: op.Sync, Session: 1, Req: req}
		h := newHistory(t, open(1), op.Made(1, 3), c)
		if req == 3 {
			// Another command with that Req: what is kept is that of the first one.
			j := h.judge(t, 3)
			say(t, j, j.Answer(c, h.reply(3, 3), 0), false)
			continue
		}
		j := h.judge(t, 3)
		say(t, j, j.Answer(c, replica.Reply{Result: op.Result{When: 3}, At: 3}, 0), req > 3, req)
	}
	zero := op.Cmd{Kind: op.Sync, Session: 1}
	text, _ := zero.Bytes()
	j := New()
	j.Commit(1, newHistory(t, open(1)).texts[0])
	j.Commit(2, text)
	say(t, j, j.Answer(zero, replica.Reply{Result: op.Result{When: 2}, At: 2}, 0), false)
}

// P20.2: Told is the greatest When, in any order, of those that were compared, also if that was in vain.
func TestTold(t *testing.T) {
	h := newHistory(t, open(1))
	for range 9 {
		h.add(t, set(1, "/", "x"))
	}
	j := h.judge(t, 8)
	for _, x := range []struct{ when, told int }{{3, 3}, {2, 3}, {5, 5}, {5, 5}, {9, 5}, {10, 5}, {8, 8}, {4, 8}} {
		say(t, j, j.Answer(h.cmds[x.when-1], h.reply(x.when, 10), 1), true, x)
		is(t, j, 8, x.told, false)
	}
	j = h.judge(t, 8)
	for _, x := range []struct{ when, at, ahead, told int }{
		{3, 10, 3, 0}, {3, 2, 1, 0}, {9, 8, 1, 0}, {9, 10, 9, 0}, {6, 5, 7, 0}, {4, 10, 3, 4}, {8, 10, 7, 8},
	} {
		say(t, j, j.Answer(h.cmds[1], h.reply(x.when, x.at), x.ahead), false, x)
		is(t, j, 8, x.told, true)
	}
	// What was not compared is not told later.
	j = h.judge(t, 8)
	say(t, j, j.Answer(h.cmds[8], h.reply(9, 10), 1), true)
	j.Commit(9, h.texts[8])
	is(t, j, 9, 0, false)
}

// P20.2: the state of When is the one of that time, however many entries are known.
func TestAnswerOfEachState(t *testing.T) {
	h := newHistory(t, open(1), open(2))
	for i := range 100 {
		h.add(t, set(1+i%2, "/", strings.Repeat("x", i%50)))
	}
	j := h.judge(t, 102)
	for i := 102; i > 2; i-- {
		say(t, j, j.Answer(h.cmds[i-1], h.reply(i, 102), i-1), true, i)
	}
	for i := 3; i <= 102; i++ {
		a := h.reply(i, 102)
		a.Result.Outs = []op.Out{{Path: "/", Version: i - 1}}
		say(t, j, j.Answer(h.cmds[i-1], a, i-1), false, i)
	}
	is(t, j, 102, 102, true)
}
