package net

import (
	"math"
	"reflect"
	"slices"
	"strings"
	"testing"

	"orchard/chunk"
	"orchard/msg"
	"orchard/pith"
	"orchard/plog"
	"orchard/sum"
)

// numbered are messages with the given numbers as their Index.
func numbered(list ...int) []msg.Msg {
	var out []msg.Msg
	for _, x := range list {
		out = append(out, msg.Msg{Kind: msg.Feed, Index: x})
	}
	return out
}

// from is count messages numbered from first on.
func from(first, count int) []msg.Msg {
	out := make([]msg.Msg, count)
	for i := range out {
		out[i] = msg.Msg{Kind: msg.Feed, Index: first + i}
	}
	return out
}

// due takes everything that is due now, and returns its numbers.
func due(t *testing.T, n *Net) []int {
	t.Helper()
	var out []int
	for {
		left := n.Len()
		m, ok := n.Next()
		if !ok {
			if n.Len() != left || !reflect.DeepEqual(m, msg.Msg{}) {
				t.Fatalf("Next that returns false: %v, and Len %d behind %d", m, n.Len(), left)
			}
			return out
		}
		if n.Len() != left-1 {
			t.Fatalf("Len %d behind %d and a Next", n.Len(), left)
		}
		out = append(out, m.Index)
	}
}

// wants fails unless the messages that are due now are these.
func wants(t *testing.T, n *Net, want ...int) {
	t.Helper()
	if got := due(t, n); !slices.Equal(got, want) {
		t.Fatalf("at %d: %v, not %v", n.Now(), got, want)
	}
}

// has fails unless the Net has this time and so many messages in transit.
func has(t *testing.T, n *Net, now, size int) {
	t.Helper()
	if n.Now() != now || n.Len() != size {
		t.Fatalf("Now %d, Len %d; not %d, %d", n.Now(), n.Len(), now, size)
	}
}

// pass lets time pass by count, and checks that each Pass is one.
func pass(t *testing.T, n *Net, count int) {
	t.Helper()
	for range count {
		now, size := n.Now(), n.Len()
		n.Pass()
		if n.Now() != now+1 || n.Len() != size {
			t.Fatalf("Pass: Now %d behind %d, Len %d behind %d", n.Now(), now, n.Len(), size)
		}
	}
}

func TestMaxWay(t *testing.T) {
	if MaxWay != 2000 {
		t.Error(MaxWay)
	}
}

func TestZero(t *testing.T) {
	for _, n := range []*Net{{}, new(Net)} {
		has(t, n, 0, 0)
		wants(t, n)
		n.Clear()
		n.Send(3)
		has(t, n, 0, 0)
		pass(t, n, 3)
		wants(t, n)
		has(t, n, 3, 0)
	}
}

func TestNil(t *testing.T) {
	var n *Net
	for range 2 {
		has(t, n, 0, 0)
		wants(t, n)
		n.Send(0)
		n.Send(0, numbered(1)...)
		n.Send(-1, numbered(1, 2, 3)...)
		n.Send(math.MaxInt, from(0, 3000)...)
		n.Pass()
		n.Clear()
	}
	has(t, n, 0, 0)
}

func TestExample(t *testing.T) {
	var n Net
	n.Send(2, numbered(1)...)
	n.Send(1, numbered(2)...)
	n.Pass()
	n.Pass()
	wants(t, &n, 2, 1)
}

func TestSendDelays(t *testing.T) {
	for _, c := range []struct{ delay, after int }{
		{math.MinInt, 0}, {math.MinInt + 1, 0}, {-(1 << 20), 0}, {-2, 0}, {-1, 0},
		{0, 0}, {1, 1}, {2, 2}, {3, 3}, {1000, 1000},
	} {
		for _, start := range []int{0, 1, 7} {
			var n Net
			pass(t, &n, start)
			n.Send(c.delay, numbered(5, 6)...)
			has(t, &n, start, 2)
			for range c.after {
				wants(t, &n)
				has(t, &n, n.Now(), 2)
				n.Pass()
			}
			has(t, &n, start+c.after, 2)
			wants(t, &n, 5, 6)
			has(t, &n, start+c.after, 0)
		}
	}
}

func TestSendLongDelays(t *testing.T) {
	const most = 1 << 20
	for _, start := range []int{0, 3} {
		var n Net
		pass(t, &n, start)
		n.Send(math.MaxInt, numbered(1)...)
		n.Send(most+1, numbered(2)...)
		n.Send(most, numbered(3)...)
		n.Send(most-1, numbered(4)...)
		n.Send(math.MaxInt-1, numbered(5)...)
		for range most - 2 {
			n.Pass()
			if _, ok := n.Next(); ok {
				t.Fatal(n.Now())
			}
		}
		n.Pass()
		has(t, &n, start+most-1, 5)
		wants(t, &n, 4)
		n.Pass()
		wants(t, &n, 1, 2, 3, 5)
		has(t, &n, start+most, 0)
	}
}

func TestSendLists(t *testing.T) {
	for _, size := range []int{0, 1, 2, 3, 7, 100, 1999, 2000} {
		for _, delay := range []int{-1, 0, 2} {
			var n Net
			n.Send(delay, from(10, size)...)
			has(t, &n, 0, size)
			for range delay {
				wants(t, &n)
				n.Pass()
			}
			got := due(t, &n)
			if len(got) != size {
				t.Fatal(size, len(got))
			}
			for i, x := range got {
				if x != 10+i {
					t.Fatal(size, i, x)
				}
			}
		}
	}
}

// The room is counted by what is in transit, whether it is due or not.
func TestRoom(t *testing.T) {
	var n Net
	n.Send(0, from(0, 1999)...)
	has(t, &n, 0, 1999)
	n.Send(0, numbered(1999)...)
	has(t, &n, 0, 2000)
	n.Send(0, numbered(2000)...)
	n.Send(-1, numbered(2001, 2002)...)
	n.Send(5)
	has(t, &n, 0, 2000)
	for i, x := range due(t, &n) {
		if i != x {
			t.Fatal(i, x)
		}
	}
	wants(t, &n)
	has(t, &n, 0, 0)
}

func TestRoomOfTheFirstPart(t *testing.T) {
	for _, before := range []int{0, 1, 1990, 1998, 1999, 2000} {
		for _, more := range []int{0, 1, 2, 11, 2000, 2001, 5000} {
			var n Net
			n.Send(4, from(0, before)...)
			n.Send(1, from(before, more)...)
			want := min(2000, before+more)
			has(t, &n, 0, want)
			pass(t, &n, 1)
			got := due(t, &n)
			pass(t, &n, 3)
			got = append(due(t, &n), got...)
			if len(got) != want {
				t.Fatal(before, more, len(got))
			}
			for i, x := range got {
				if i != x {
					t.Fatal(before, more, i, x)
				}
			}
		}
	}
}

// What is lost is lost: it does not come when there is room again.
func TestRoomAgain(t *testing.T) {
	var n Net
	n.Send(0, from(0, 2000)...)
	n.Send(0, numbered(5000)...)
	if m, ok := n.Next(); !ok || m.Index != 0 {
		t.Fatal(m, ok)
	}
	has(t, &n, 0, 1999)
	n.Send(0, numbered(2000, 5001)...)
	has(t, &n, 0, 2000)
	for range 3 {
		n.Next()
	}
	n.Send(0, numbered(2001, 2002, 2003, 5002)...)
	has(t, &n, 0, 2000)
	for i, x := range due(t, &n) {
		if x != 4+i {
			t.Fatal(i, x)
		}
	}
	n.Send(0, from(0, 2001)...)
	has(t, &n, 0, 2000)
	n.Clear()
	has(t, &n, 0, 0)
	wants(t, &n)
	n.Send(1, from(100, 2001)...)
	has(t, &n, 0, 2000)
	n.Pass()
	for i, x := range due(t, &n) {
		if x != 100+i {
			t.Fatal(i, x)
		}
	}
	has(t, &n, 1, 0)
}

func TestRoomOfWhatIsNotDue(t *testing.T) {
	var n Net
	n.Send(3, from(0, 2000)...)
	pass(t, &n, 2)
	wants(t, &n)
	n.Send(0, numbered(5000)...)
	wants(t, &n)
	has(t, &n, 2, 2000)
	n.Pass()
	n.Send(0, numbered(5000)...)
	if got := due(t, &n); len(got) != 2000 || slices.Contains(got, 5000) {
		t.Fatal(len(got))
	}
}

func TestNextOrder(t *testing.T) {
	var n Net
	n.Send(3, numbered(1, 2)...) // due at 3
	n.Send(1, numbered(3)...)    // at 1
	n.Send(3, numbered(4)...)    // at 3
	n.Send(2, numbered(5, 6)...) // at 2
	n.Pass()
	n.Send(2, numbered(7)...) // at 3, sent later
	n.Send(1, numbered(8)...) // at 2
	n.Send(0, numbered(9)...) // at 1
	wants(t, &n, 3, 9)
	n.Pass()
	n.Send(1, numbered(10)...) // at 3
	wants(t, &n, 5, 6, 8)
	n.Pass()
	n.Send(0, numbered(11)...) // at 3
	wants(t, &n, 1, 2, 4, 7, 10, 11)
	has(t, &n, 3, 0)
}

// What is overdue comes before what is due now, though it may have been sent later.
func TestNextOverdue(t *testing.T) {
	var n Net
	n.Send(9, numbered(1)...)
	n.Send(5, numbered(2)...)
	n.Send(0, numbered(3)...)
	n.Send(2, numbered(4, 5)...)
	pass(t, &n, 4)
	n.Send(0, numbered(6)...)
	n.Send(1, numbered(7)...)
	pass(t, &n, 5)
	n.Send(0, numbered(8)...)
	n.Send(1, numbered(9)...)
	has(t, &n, 9, 9)
	wants(t, &n, 3, 4, 5, 6, 2, 7, 1, 8)
	has(t, &n, 9, 1)
	n.Pass()
	wants(t, &n, 9)
}

// Next that returns false changes nothing.
func TestNextWithNothing(t *testing.T) {
	var n Net
	wants(t, &n)
	n.Send(2, numbered(1)...)
	for range 2 {
		for range 3 {
			wants(t, &n)
			has(t, &n, n.Now(), 1)
		}
		n.Pass()
	}
	wants(t, &n, 1)
	for range 3 {
		wants(t, &n)
		has(t, &n, 2, 0)
	}
}

func TestClear(t *testing.T) {
	var n Net
	pass(t, &n, 4)
	n.Send(0, numbered(1, 2)...)
	n.Send(3, numbered(3)...)
	n.Clear()
	has(t, &n, 4, 0)
	wants(t, &n)
	pass(t, &n, 5)
	wants(t, &n)
	n.Send(1, numbered(4)...)
	n.Send(0, numbered(5)...)
	wants(t, &n, 5)
	has(t, &n, 9, 1)
	n.Clear()
	n.Clear()
	has(t, &n, 9, 0)
	pass(t, &n, 1)
	wants(t, &n)
}

// Two Nets have nothing to do with each other.
func TestTwo(t *testing.T) {
	var a, b Net
	a.Send(0, numbered(1)...)
	b.Pass()
	b.Send(0, numbered(2, 3)...)
	has(t, &a, 0, 1)
	has(t, &b, 1, 2)
	wants(t, &a, 1)
	b.Clear()
	a.Send(0, numbered(4)...)
	has(t, &b, 1, 0)
	wants(t, &a, 4)
}

// messages are valid ones of every Kind, and others.
func messages() []msg.Msg {
	full := func(kind msg.Kind) msg.Msg {
		return msg.Msg{Kind: kind, From: 1, To: 2, Term: 3, Index: 4, LogTerm: 5, Last: 6, Commit: 7,
			Entries: []plog.Entry{{Index: 8, Term: 9, Data: "ab"}, {Index: 10, Term: 11, Data: "cd"}, {}, {Data: "\x00"}},
			Ok:      true, State: plog.Hurt, List: chunk.List{Index: 12, Term: 13, Bytes: 500, Sums: []sum.Sum{14, math.MaxUint32}}, Part: 1, Data: "ef"}
	}
	var out []msg.Msg
	for kind := msg.VoteAsk; kind <= msg.ShotGive; kind++ {
		out = append(out, full(kind), msg.Msg{Kind: kind})
	}
	most := full(msg.ShotGive)
	most.Index, most.Term, most.Data = pith.Most, pith.Most, strings.Repeat("x", 400)
	wrong := full(0)
	wrong.From, wrong.To, wrong.State, wrong.Part = math.MinInt, math.MaxInt, -1, -1
	wrong.Entries, wrong.List.Sums, wrong.Data = make([]plog.Entry, 9), make([]sum.Sum, 70), strings.Repeat("y", 3000)
	empty := msg.Msg{Kind: msg.Feed, Entries: []plog.Entry{}, List: chunk.List{Sums: []sum.Sum{}}}
	return append(out, most, wrong, empty, msg.Msg{}, msg.Msg{Kind: -1})
}

// spoil changes whatever a message shares with its copies.
func spoil(m msg.Msg) {
	for i := range m.Entries {
		m.Entries[i] = plog.Entry{Index: 99, Term: 99, Data: "spoiled"}
	}
	for i := range m.List.Sums {
		m.List.Sums[i] = 99
	}
}

// same compares two messages; nil and empty lists are the same.
func same(a, b msg.Msg) bool {
	if !slices.Equal(a.Entries, b.Entries) || !slices.Equal(a.List.Sums, b.List.Sums) {
		return false
	}
	a.Entries, b.Entries, a.List.Sums, b.List.Sums = nil, nil, nil, nil
	return reflect.DeepEqual(a, b)
}

func TestMessagesUnchanged(t *testing.T) {
	for _, delay := range []int{0, 1} {
		var n Net
		sent, want := messages(), messages()
		n.Send(delay, sent...)
		for i := range sent {
			if !same(sent[i], want[i]) {
				t.Fatalf("Send changed %v to %v", want[i], sent[i])
			}
			spoil(sent[i])
			sent[i] = msg.Msg{}
		}
		n.Pass()
		for _, w := range want {
			m, ok := n.Next()
			if !ok || !same(m, w) {
				t.Fatalf("%v arrived as %v", w, m)
			}
		}
	}
}

// A message that was sent several times arrives each time in memory of its own.
func TestMessagesShareNothing(t *testing.T) {
	var n Net
	for _, w := range messages() {
		n.Send(0, w, w)
		n.Send(0, w)
		for range 3 {
			m, ok := n.Next()
			if !ok || !same(m, w) {
				t.Fatalf("%v arrived as %v", w, m)
			}
			spoil(m)
		}
	}
}

// A message that was removed stays what it is, whatever the Net does then.
func TestMessagesStay(t *testing.T) {
	var n Net
	n.Send(0, messages()...)
	var got []msg.Msg
	for range len(messages()) {
		m, _ := n.Next()
		got = append(got, m)
		n.Send(0, numbered(77)...)
	}
	n.Clear()
	n.Send(0, from(0, 2000)...)
	for i, w := range messages() {
		if !same(got[i], w) {
			t.Fatalf("%v became %v", w, got[i])
		}
	}
}
