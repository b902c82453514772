package net

import (
	"math/rand"
	"testing"

	"orchard/msg"
)

// plain is layer 17 by the letter: a list in the order of sending, which is searched.
type plain struct {
	now  int
	list []letter
}

// letter is a message in transit, by its number.
type letter struct{ due, no int }

func (p *plain) send(delay int, list ...msg.Msg) {
	for _, m := range list {
		if len(p.list) < 2000 {
			p.list = append(p.list, letter{due: p.now + max(0, min(delay, 1<<20)), no: m.Index})
		}
	}
}

func (p *plain) next() (int, bool) {
	first := -1
	for i, l := range p.list {
		if l.due <= p.now && (first < 0 || l.due < p.list[first].due) {
			first = i
		}
	}
	if first < 0 {
		return 0, false
	}
	no := p.list[first].no
	p.list = append(p.list[:first:first], p.list[first+1:]...)
	return no, true
}

// delayed is a delay, most of them short.
func delayed(r *rand.Rand) int {
	switch r.Intn(20) {
	case 0:
		return -r.Intn(5)
	case 1:
		return 1<<20 - 2 + r.Intn(5)
	case 2:
		return r.Intn(300)
	}
	return r.Intn(8)
}

// step makes one random call of both, and returns the number of the next message.
func step(t *testing.T, r *rand.Rand, n *Net, p *plain, no int) int {
	t.Helper()
	switch k := r.Intn(40); {
	case k < 14:
		list := from(no, r.Intn(5))
		if r.Intn(100) == 0 {
			list = from(no, r.Intn(2500))
		}
		delay := delayed(r)
		n.Send(delay, list...)
		p.send(delay, list...)
		no += len(list)
	case k < 32:
		m, ok := n.Next()
		want, there := p.next()
		if ok != there || m.Index != want {
			t.Fatalf("at %d: Next %d, %v; not %d, %v", p.now, m.Index, ok, want, there)
		}
	case k < 39 || r.Intn(30) > 0:
		n.Pass()
		p.now++
	default:
		n.Clear()
		p.list = nil
	}
	return no
}

func TestRandom(t *testing.T) {
	for seed := range 60 {
		r := rand.New(rand.NewSource(int64(seed)))
		var n Net
		var p plain
		no := 1
		for range 1500 {
			no = step(t, r, &n, &p, no)
			if n.Now() != p.now || n.Len() != len(p.list) {
				t.Fatalf("seed %d: Now %d, Len %d; not %d, %d", seed, n.Now(), n.Len(), p.now, len(p.list))
			}
		}
	}
}
