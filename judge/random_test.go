package judge

import (
	"fmt"
	"math/rand"
	"slices"
	"testing"

	"orchard/api"
	"orchard/op"
	"orchard/pith"
	"orchard/watch"
)

// twins are a Judge and what it must be, and what is really committed.
type twins struct {
	*testing.T
	name  string
	r     *rand.Rand
	j     *Judge
	p     *plain
	h     *history
	count map[string]int
}

func (w *twins) path() string {
	return []string{"/", "/", "/", "/a", "/b", "/a/c", "/n0000000000", "a/", ""}[w.r.Intn(9)]
}

// command returns a random one of one of three sessions, often of their next Req.
func (w *twins) command() op.Cmd {
	session := 1 + w.r.Intn(3)
	c := op.Cmd{Kind: op.Update, Session: session, Path: w.path(), Kids: w.r.Intn(2) == 0, Once: w.r.Intn(3) == 0}
	for _, o := range w.h.cmds {
		if o.Session == session {
			c.Req = min(max(c.Req, o.Req), pith.Most-1)
		}
	}
	c.Req += (w.r.Intn(20) + 18) / 19
	if list := w.h.states[len(w.h.states)-1].Events(session); len(list) > 0 && w.r.Intn(2) == 0 {
		c.Noted = list[w.r.Intn(len(list))].No
	}
	switch p := w.r.Intn(20); {
	case p < 2:
		c.Kind, c.Req = op.Open, 0
	case p < 3 && w.r.Intn(3) == 0:
		c.Kind = op.Close
	case p < 5:
		c.Kind = op.Sync
	case p < 6:
		c.Kind = op.Empty
	case p < 9:
		c.Kind = op.Watch
	case p < 16:
		c.Ops = []op.Op{{Does: op.Set, Path: "/", Version: -1}, {Does: op.Create, Path: "/n", Version: -1, Serial: true}}[p%2 : 1+p%2]
		return c
	}
	for range w.r.Intn(4) {
		c.Ops = append(c.Ops, op.Op{
			Does: op.Does(1 + w.r.Intn(4)), Path: w.path(), Data: fmt.Sprint(w.r.Intn(100)), Version: w.r.Intn(4) - 1,
			Serial: w.r.Intn(4) == 0, Own: w.r.Intn(4) == 0,
		})
	}
	return c
}

// happen adds a random command to the history.
func (w *twins) happen() {
	if w.r.Intn(30) == 0 {
		w.h.put(op.Cmd{}, fmt.Sprint("no command ", w.r.Intn(9)))
		return
	}
	if last := len(w.h.texts); last > 0 && w.r.Intn(20) == 0 {
		i := w.r.Intn(last)
		w.h.put(w.h.cmds[i], w.h.texts[i])
		return
	}
	c := w.command()
	if text, e := c.Bytes(); e == api.OK {
		w.h.put(c, text)
	}
}

// index returns one from 0 up to the last entry, often one about Known; rarely another one.
func (w *twins) index() int {
	last := len(w.h.texts)
	switch w.r.Intn(8) {
	case 0:
		return w.r.Intn(last+6) - 3
	case 1, 2:
		return min(max(w.p.known()+w.r.Intn(3)-1, 0), last)
	}
	return w.r.Intn(last + 1)
}

// same fails unless both returned the same, and know the same.
func (w *twins) same(got, want bool, what string, list ...any) {
	w.Helper()
	wrong := api.OK
	if w.p.wrong {
		wrong = api.ErrBad
	}
	if got != want || w.j.Known() != w.p.known() || w.j.Told() != w.p.told || w.j.Wrong() != wrong {
		w.Fatalf("%s: %s%v: %v, not %v; Known %d, %d; Told %d, %d; Wrong %d, %d", w.name, what, list, got, want,
			w.j.Known(), w.p.known(), w.j.Told(), w.p.told, w.j.Wrong(), wrong)
	}
	w.count[fmt.Sprint(what, " ", got)]++
}

// commits records a random entry.
func (w *twins) commits() {
	w.Helper()
	i := w.p.known() + 1
	if w.r.Intn(4) == 0 {
		i = w.index()
	}
	text := "another"
	if i >= 1 && i <= len(w.h.texts) && w.r.Intn(50) > 0 {
		text = w.h.texts[i-1]
	}
	w.same(w.j.Commit(i, text), w.p.commit(i, text), "commit", i, text)
}

// answers checks a random answer, that is often one that can be.
func (w *twins) answers() {
	w.Helper()
	i, at, ahead := max(w.index(), 1), w.index(), w.index()
	if i > len(w.h.texts) {
		return
	}
	if w.r.Intn(3) > 0 {
		at, ahead = max(at, i), min(ahead, i-1)
	}
	c, a := w.h.cmds[i-1], w.h.reply(i, at)
	switch w.r.Intn(12) {
	case 0:
		c = w.command()
	case 1:
		a.Result.E = api.Errno(w.r.Intn(20))
	case 2:
		a.Result.At = w.r.Intn(3)
	case 3:
		a.Result.Outs = append(slices.Clone(a.Result.Outs), op.Out{})
	case 4:
		a.Result.When = w.index()
	case 5:
		a.E = []api.Errno{api.ErrSession, api.ErrUnavail, api.ErrOld, api.ErrLeader}[w.r.Intn(4)]
	}
	w.same(w.j.Answer(c, a, ahead), w.p.answer(c, a, ahead), "answer", c, a, ahead)
}

// reads checks a random answer to a read.
func (w *twins) reads() {
	w.Helper()
	at, least, s := min(max(w.index(), 0), len(w.h.texts)), w.index(), w.path()
	if w.r.Intn(3) > 0 {
		least = min(at, least)
	}
	a := w.h.node(s, at)
	switch w.r.Intn(10) {
	case 0:
		a.At = w.index()
	case 1:
		a.Node.Version++
	case 2:
		a.Kids = append(a.Kids, "q")
	case 3:
		a.E = []api.Errno{api.OK, api.ErrNode, api.ErrUnavail, api.ErrPath}[w.r.Intn(4)]
	}
	w.same(w.j.Read(s, a, least), w.p.read(s, a, least), "read", s, a, least)
}

// hears checks a random list of events.
func (w *twins) hears() {
	w.Helper()
	session, seen := (w.r.Intn(12)+2)/3, w.index()
	list := w.p.events(session)
	if n := len(list); n > 0 {
		switch w.r.Intn(10) {
		case 0:
			list = append(list, list[n-1])
		case 1:
			list = list[1:]
		case 2:
			list[w.r.Intn(n)].No++
		case 3:
			list = append(list, watch.Event{Session: session, No: list[n-1].No + 1, Path: "/", What: watch.Set, When: seen})
		case 4, 5, 6:
			list = list[:w.r.Intn(n)]
		}
	}
	got := w.j.Heard(session, list, seen)
	w.same(got, w.p.heard(session, list, seen), "heard", session, list, seen)
	if len(list) > 0 {
		w.count[fmt.Sprint("heard some ", got)]++
	}
}

// P20.1 to P20.3: whatever is told, a Judge is what follows by the letter.
func TestRandom(t *testing.T) {
	count := map[string]int{}
	for seed := range 200 {
		w := &twins{t, fmt.Sprint("seed ", seed), rand.New(rand.NewSource(int64(seed))), New(), &plain{texts: map[int]string{}},
			newHistory(t), count}
		for id := range 3 {
			w.h.add(t, open(id+1))
		}
		for range 300 {
			switch w.r.Intn(6) {
			case 0:
				w.happen()
			case 1:
				w.commits()
			case 2:
				w.answers()
			case 3:
				w.reads()
			case 4, 5:
				w.hears()
			}
		}
	}
	for _, what := range []string{"commit", "answer", "read", "heard", "heard some"} {
		for _, ok := range []bool{true, false} {
			if n := count[fmt.Sprint(what, " ", ok)]; n < 100 {
				t.Error(what, ok, n)
			}
		}
	}
	t.Log(count)
}
