package sess

import (
	"math/rand"
	"strconv"
	"testing"

	"orchard/api"
	"orchard/pith"
)

// model is a table by the letter of P10.1 and P10.2: a list of sessions in no order.
type model []entry

// at returns where a session is, or -1.
func (m model) at(id int) int {
	for i, s := range m {
		if s.id == id {
			return i
		}
	}
	return -1
}

func (m *model) open(id int) api.Errno {
	if id < 1 || id > 1<<48-1 {
		return api.ErrArg
	}
	if m.at(id) >= 0 {
		return api.ErrExists
	}
	if len(*m) == 16 {
		return api.ErrQuota
	}
	*m = append(*m, entry{id: id})
	return api.OK
}

func (m *model) shut(id int) api.Errno {
	i, last := m.at(id), len(*m)-1
	if i < 0 {
		return api.ErrSession
	}
	(*m)[i] = (*m)[last]
	*m = (*m)[:last]
	return api.OK
}

func (m model) seen(id, req int) (string, bool, api.Errno) {
	i := m.at(id)
	if i < 0 {
		return "", false, api.ErrSession
	}
	if req < 1 || req > 1<<48-1 {
		return "", false, api.ErrArg
	}
	if req < m[i].Req {
		return "", false, api.ErrOld
	}
	if req == m[i].Req {
		return m[i].Answer, true, api.OK
	}
	return "", false, api.OK
}

func (m model) keep(id, req int, answer string) api.Errno {
	if _, _, e := m.seen(id, req); e != api.OK {
		return e
	}
	i := m.at(id)
	if req == m[i].Req {
		return api.ErrOld
	}
	if len(answer) > 400 {
		return api.ErrLong
	}
	m[i].Req, m[i].Answer = req, answer
	return api.OK
}

// equals checks that a table has the sessions of a model.
func (m model) equals(t *testing.T, what string, x *Table) {
	t.Helper()
	list := x.All()
	if len(list) != len(m) {
		t.Fatalf("%s: All = %d, want %d sessions", what, list, len(m))
	}
	last := 0
	for _, id := range list {
		if id <= last || m.at(id) < 0 {
			t.Fatalf("%s: All = %d", what, list)
		}
		last = id
	}
	for id := -1; id < 22; id++ {
		if x.Has(id) != (m.at(id) >= 0) {
			t.Fatalf("%s: Has(%d) = %t", what, id, x.Has(id))
		}
		for req := -1; req < 8; req++ {
			answer, is, e := x.Seen(id, req)
			if a, i, f := m.seen(id, req); answer != a || is != i || e != f {
				t.Fatalf("%s: Seen(%d, %d) = %q, %t, %d, want %q, %t, %d", what, id, req, answer, is, e, a, i, f)
			}
		}
	}
}

// step makes one call, of a table and of its model.
func step(t *testing.T, r *rand.Rand, x *Table, m *model) {
	t.Helper()
	id, req := r.Intn(22)-1, r.Intn(9)-1
	var what string
	var e, f api.Errno
	switch r.Intn(12) {
	case 0, 1, 2, 3, 4:
		what, e, f = "Open", x.Open(id), m.open(id)
	case 5:
		what, e, f = "Close", x.Close(id), m.shut(id)
	default:
		answer := text([]int{0, 1, 399, 400, 401}[r.Intn(5)])
		what, e, f = "Keep", x.Keep(id, req, answer), m.keep(id, req, answer)
	}
	if e != f {
		t.Fatalf("%s of %d, %d: %d, want %d", what, id, req, e, f)
	}
}

// P10.1, P10.2, P10.3: whatever is called, a table answers as its model does, and so do its copies.
func TestModel(t *testing.T) {
	for seed := range 20 {
		r := rand.New(rand.NewSource(int64(seed)))
		x, m := New(), model{}
		for i := range 300 {
			step(t, r, x, &m)
			if i%10 == 0 {
				m.equals(t, "after "+strconv.Itoa(i), x)
			}
			if i%30 == 0 {
				y, k := x.Clone(), append(model(nil), m...)
				step(t, r, y, &k)
				k.equals(t, "the copy", y)
				m.equals(t, "copied", x)
				m.equals(t, "read", Read(pith.Read(string(x.Lay(nil)))))
			}
		}
	}
}
