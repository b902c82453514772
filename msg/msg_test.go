package msg

import (
	"math"
	"slices"
	"strings"
	"testing"

	"orchard/api"
	"orchard/chunk"
	"orchard/pith"
	"orchard/plog"
	"orchard/sum"
)

// long returns so many bytes.
func long(size int) string {
	return strings.Repeat("0123456789", size/10+1)[:size]
}

// full returns a valid message, of which no field is zero and no two numbers are equal.
func full() Msg {
	return Msg{
		Kind: ShotGive, From: 21, To: 22, Term: 23, Index: 24, LogTerm: 25, Last: 26, Commit: 27,
		Entries: []plog.Entry{{Index: 31, Term: 32, Data: "first"}, {Index: 33, Term: 34, Data: "second\x00\xff"}},
		Ok:      true,
		State:   plog.Unknown,
		List:    chunk.List{Index: 41, Term: 42, Bytes: 43, Sums: []sum.Sum{51, 52, 53}},
		Part:    28,
		Data:    "part\n\x00",
	}
}

// numbers returns the numbers of a message that are 0 to layer 1's Most.
func numbers(m *Msg) []*int {
	list := []*int{
		&m.From, &m.To, &m.Term, &m.Index, &m.LogTerm, &m.Last, &m.Commit, &m.Part,
		&m.List.Index, &m.List.Term, &m.List.Bytes,
	}
	for i := range m.Entries {
		list = append(list, &m.Entries[i].Index, &m.Entries[i].Term)
	}
	return list
}

// with returns a full message with a change.
func with(change func(m *Msg)) Msg {
	m := full()
	change(&m)
	return m
}

// withNumber returns a full message whose i-th number is n.
func withNumber(i, n int) Msg {
	return with(func(m *Msg) { *numbers(m)[i] = n })
}

// entries returns so many entries with so many bytes each.
func entries(count, size int) []plog.Entry {
	var list []plog.Entry
	for i := range count {
		list = append(list, plog.Entry{Index: i + 7, Term: 3, Data: long(size)})
	}
	return list
}

// sums returns so many checksums.
func sums(count int) []sum.Sum {
	var list []sum.Sum
	for i := range count {
		list = append(list, sum.Of(long(i)))
	}
	return list
}

// rightMsgs are valid messages, among them each Kind, each State, and all limits.
func rightMsgs() []Msg {
	list := []Msg{full(), {Kind: VoteAsk}, {Kind: ShotGive, List: chunk.Of(8, 9, "abc")}, {Kind: Feed, Ok: true}}
	for kind := Kind(1); kind <= 8; kind++ {
		list = append(list, Msg{Kind: kind, From: 1, To: 2, Term: 258}, with(func(m *Msg) { m.Kind = kind }))
	}
	for state := plog.State(0); state <= 3; state++ {
		list = append(list, with(func(m *Msg) { m.State = state }))
	}
	all := full()
	for i, n := range numbers(&all) {
		for _, x := range []int{0, 1, pith.Most - 1, pith.Most} {
			list = append(list, withNumber(i, x))
		}
		*n = pith.Most
	}
	list = append(list, all)
	for count := range 5 {
		for _, size := range []int{0, 1, 487, 488} {
			list = append(list, Msg{Kind: Feed, Entries: entries(count, size)})
		}
	}
	for _, count := range []int{0, 1, 63, 64} {
		list = append(list, with(func(m *Msg) { m.List.Sums = sums(count) }))
	}
	for _, size := range []int{0, 1, 399, 400} {
		list = append(list, with(func(m *Msg) { m.Data = long(size) }))
	}
	return append(list,
		with(func(m *Msg) { m.List.Sums = []sum.Sum{0, 1, math.MaxUint32 - 1, math.MaxUint32} }),
		with(func(m *Msg) { m.Ok = false }),
		with(func(m *Msg) { m.Entries[0], m.Entries[1] = plog.Entry{}, plog.Entry{} }),
		with(func(m *Msg) { m.Entries, m.List.Sums, m.Data = entries(4, 488), sums(64), long(400) }),
	)
}

// wrongSizes are messages with too many entries, sums or bytes, each for one reason.
func wrongSizes() []Msg {
	var list []Msg
	for _, count := range []int{5, 6, 1000} {
		list = append(list, with(func(m *Msg) { m.Entries = entries(count, 0) }),
			with(func(m *Msg) { m.Entries = make([]plog.Entry, count) }))
	}
	for _, size := range []int{489, 490, 65535, 100000} {
		for i := range 4 {
			list = append(list, with(func(m *Msg) {
				m.Entries = entries(4, 1)
				m.Entries[i].Data = long(size)
			}))
		}
	}
	for _, count := range []int{65, 66, 1000} {
		list = append(list, with(func(m *Msg) { m.List.Sums = sums(count) }))
	}
	for _, size := range []int{401, 402, 65535, 100000} {
		list = append(list, with(func(m *Msg) { m.Data = long(size) }))
	}
	return list
}

// wrongMsgs are messages that are not valid, each for one reason.
func wrongMsgs() []Msg {
	list := append(wrongSizes(), Msg{})
	for _, kind := range []Kind{math.MinInt, -1, 0, 9, 10, math.MaxInt} {
		list = append(list, with(func(m *Msg) { m.Kind = kind }))
	}
	for _, state := range []plog.State{math.MinInt, -1, 4, 5, math.MaxInt} {
		list = append(list, with(func(m *Msg) { m.State = state }))
	}
	m := full()
	for i := range numbers(&m) {
		for _, n := range []int{math.MinInt, -2, -1, pith.Most + 1, pith.Most + 2, math.MaxInt} {
			list = append(list, withNumber(i, n))
		}
	}
	return list
}

// changes are what makes another valid message of a full one: of each field alone, and of each part of one.
func changes() []func(m *Msg) {
	return []func(m *Msg){
		func(m *Msg) { m.Kind = Feed },
		func(m *Msg) { m.From = 1 },
		func(m *Msg) { m.To = 1 },
		func(m *Msg) { m.Term++ },
		func(m *Msg) { m.Index = 0 },
		func(m *Msg) { m.LogTerm = pith.Most },
		func(m *Msg) { m.Last-- },
		func(m *Msg) { m.Commit = 258 },
		func(m *Msg) { m.Entries = nil },
		func(m *Msg) { m.Entries = m.Entries[:1] },
		func(m *Msg) { m.Entries = m.Entries[1:] },
		func(m *Msg) { m.Entries = append(m.Entries, plog.Entry{}) },
		func(m *Msg) { m.Entries[0], m.Entries[1] = m.Entries[1], m.Entries[0] },
		func(m *Msg) { m.Entries[0].Index = 0 },
		func(m *Msg) { m.Entries[0].Term = 0 },
		func(m *Msg) { m.Entries[0].Data = "" },
		func(m *Msg) { m.Entries[1].Index++ },
		func(m *Msg) { m.Entries[1].Term++ },
		func(m *Msg) { m.Entries[1].Data = "second\x00\xfe" },
		func(m *Msg) { m.Ok = false },
		func(m *Msg) { m.State = plog.Gone },
		func(m *Msg) { m.State = plog.Hurt },
		func(m *Msg) { m.List = chunk.List{} },
		func(m *Msg) { m.List.Index = 0 },
		func(m *Msg) { m.List.Term++ },
		func(m *Msg) { m.List.Bytes-- },
		func(m *Msg) { m.List.Sums = nil },
		func(m *Msg) { m.List.Sums = m.List.Sums[:2] },
		func(m *Msg) { m.List.Sums = append(m.List.Sums, 0) },
		func(m *Msg) { m.List.Sums[0] = math.MaxUint32 },
		func(m *Msg) { m.List.Sums[1], m.List.Sums[2] = m.List.Sums[2], m.List.Sums[1] },
		func(m *Msg) { m.Part = 0 },
		func(m *Msg) { m.Data = "" },
		func(m *Msg) { m.Data = "part\n" },
	}
}

// P14.1: the numbers of the kinds, and how many entries there may be.
func TestNumbers(t *testing.T) {
	if !slices.Equal([]Kind{VoteAsk, VoteGive, Feed, FeedGive, Ask, Give, ShotAsk, ShotGive}, []Kind{1, 2, 3, 4, 5, 6, 7, 8}) {
		t.Error(VoteAsk, VoteGive, Feed, FeedGive, Ask, Give, ShotAsk, ShotGive)
	}
	if MaxEntries != 4 {
		t.Error(MaxEntries)
	}
}

// P14.1: which messages are valid.
func TestRight(t *testing.T) {
	for _, m := range rightMsgs() {
		if !m.Right() {
			t.Errorf("not valid: %.300v", m)
		}
	}
	for _, change := range changes() {
		if m := with(change); !m.Right() {
			t.Errorf("not valid: %.300v", m)
		}
	}
	for _, m := range wrongMsgs() {
		if m.Right() {
			t.Errorf("valid: %.300v", m)
		}
	}
}

// P14.1: nothing else is asked of a message: neither that its parts agree, nor that its List is one of a store.
func TestRightAsksNothingElse(t *testing.T) {
	list := []Msg{
		{Kind: VoteAsk, From: 1, To: 1, Entries: entries(4, 9), Data: "x", Part: 3},
		{Kind: Ask, From: pith.Most, To: 0, Last: 1, Commit: 9},
		{Kind: Feed, Entries: []plog.Entry{{Index: 9, Term: 5}, {Index: 2}, {}}},
		{Kind: Give, Term: api.MaxTime + 1, Entries: []plog.Entry{{Index: api.MaxTime + 1, Term: api.MaxTime + 1}}},
		{Kind: ShotGive, List: chunk.List{Bytes: 1}},
		{Kind: ShotGive, List: chunk.List{Index: api.MaxTime + 1, Term: 1, Sums: sums(64)}},
		{Kind: ShotGive, List: chunk.Of(1, 1, "abc"), Part: 64, Data: "abd"},
	}
	for _, m := range list {
		if !m.Right() {
			t.Errorf("not valid: %v", m)
		}
	}
}

// P14.2: Same compares all fields.
func TestSame(t *testing.T) {
	for i, change := range changes() {
		a, b := full(), full()
		if !a.Same(b) || !b.Same(a) {
			t.Errorf("not the same: %v, %v", a, b)
		}
		change(&b)
		if a.Same(b) || b.Same(a) || !b.Same(b) || !b.Same(with(change)) {
			t.Errorf("change %d: %v, %v", i, a, b)
		}
	}
	m := full()
	for i := range numbers(&m) {
		for _, n := range []int{0, pith.Most} {
			if x := withNumber(i, n); x.Same(m) || m.Same(x) {
				t.Errorf("number %d: %v, %v", i, m, x)
			}
		}
	}
	list := rightMsgs()
	for i, m := range list {
		for _, x := range list {
			if m.Same(x) != (laid(m) == laid(x)) {
				t.Errorf("%d: Same is %v of %.300v, %.300v", i, m.Same(x), m, x)
			}
		}
	}
}

// P14.2, with rule 4: nil lists are the same as empty ones.
func TestSameOfEmptyLists(t *testing.T) {
	a := with(func(m *Msg) { m.Entries, m.List.Sums = nil, nil })
	b := with(func(m *Msg) { m.Entries, m.List.Sums = []plog.Entry{}, []sum.Sum{} })
	if !a.Same(b) || !b.Same(a) || !b.Right() {
		t.Error("an empty list is another one than nil")
	}
	if x, e := b.Bytes(); x != laid(a) || e != api.OK {
		t.Errorf("Bytes = %x, %d", x, e)
	}
}

// Rule 1: Same terminates and does not panic for messages that are not valid either.
func TestSameOfWrong(t *testing.T) {
	for i, m := range wrongMsgs() {
		if m.Same(full()) || full().Same(m) {
			t.Errorf("%d: the same as a full one: %.300v", i, m)
		}
	}
}
