package tree

import (
	"math/rand"
	"slices"
	"strconv"
	"strings"
	"testing"

	"orchard/api"
	"orchard/path"
)

// model is a tree by the letter of P9.1 to P9.3: a list of nodes in no order.
type model []modelNode

type modelNode struct {
	path string
	Node
}

// at returns the node of a path, or nil.
func (m model) at(s string) *modelNode {
	for i := range m {
		if m[i].path == s {
			return &m[i]
		}
	}
	return nil
}

// get returns the error of Get.
func (m model) get(s string) api.Errno {
	switch {
	case path.Check(s) != api.OK:
		return api.ErrPath
	case m.at(s) == nil:
		return api.ErrNode
	}
	return api.OK
}

// kids returns what Kids does for a node that exists.
func (m model) kids(s string) []string {
	var list []string
	for _, n := range m {
		if up, part := path.Up(n.path); n.path != "/" && up == s {
			list = append(list, part)
		}
	}
	slices.Sort(list)
	return list
}

// paths returns the paths of the nodes for which a question is answered with yes.
func (m model) paths(yes func(n Node) bool) []string {
	var list []string
	for _, n := range m {
		if yes(n.Node) {
			list = append(list, n.path)
		}
	}
	slices.Sort(list)
	return list
}

func (m *model) create(s, data string, owner, when int, serial bool) (string, api.Errno) {
	if path.Check(s) != api.OK {
		return "", api.ErrPath
	}
	if s == "/" {
		return "", api.ErrExists
	}
	if len(data) > 60 {
		return "", api.ErrLong
	}
	up, _ := path.Up(s)
	if m.at(up) == nil {
		return "", api.ErrNode
	}
	if m.at(up).Owner != 0 {
		return "", api.ErrEphem
	}
	if serial {
		s = path.Serial(s, m.at(up).Serial)
		if path.Check(s) != api.OK {
			return "", api.ErrPath
		}
	}
	if m.at(s) != nil {
		return "", api.ErrExists
	}
	if len(*m) == 60 {
		return "", api.ErrQuota
	}
	m.at(up).Below++
	if serial {
		m.at(up).Serial++
	}
	*m = append(*m, modelNode{s, Node{Data: data, Owner: owner, Made: when, Set: when}})
	return s, api.OK
}

func (m model) check(s string, version int) api.Errno {
	if e := m.get(s); e != api.OK {
		return e
	}
	if version >= 0 && m.at(s).Version != version {
		return api.ErrVersion
	}
	return api.OK
}

func (m model) set(s, data string, version, when int) (int, api.Errno) {
	if e := m.check(s, version); e != api.OK {
		return 0, e
	}
	if len(data) > 60 {
		return 0, api.ErrLong
	}
	n := m.at(s)
	n.Data, n.Set, n.Version = data, when, n.Version+1
	return n.Version, api.OK
}

func (m *model) remove(s string, version int) api.Errno {
	if e := m.check(s, version); e != api.OK {
		return e
	}
	if s == "/" {
		return api.ErrArg
	}
	if len(m.kids(s)) != 0 {
		return api.ErrKids
	}
	*m = slices.DeleteFunc(*m, func(n modelNode) bool { return n.path == s })
	up, _ := path.Up(s)
	m.at(up).Below++
	return api.OK
}

// equals checks that a tree has the nodes of a model, by all that can be asked of it.
func (m model) equals(t *testing.T, what string, x *Tree, asked []string) {
	t.Helper()
	if x.Len() != len(m) {
		t.Fatalf("%s: Len = %d, want %d", what, x.Len(), len(m))
	}
	if got := x.Paths(); !slices.Equal(got, m.paths(func(Node) bool { return true })) {
		t.Fatalf("%s: Paths = %q", what, got)
	}
	for owner := -2; owner <= 3; owner++ {
		want := m.paths(func(n Node) bool { return owner != 0 && n.Owner == owner })
		if got := x.Owned(owner); !slices.Equal(got, want) {
			t.Fatalf("%s: Owned(%d) = %q, want %q", what, owner, got, want)
		}
	}
	for _, s := range append(x.Paths(), asked...) {
		n, e := x.Get(s)
		if e != m.get(s) || e == api.OK && n != m.at(s).Node || e != api.OK && n != (Node{}) {
			t.Fatalf("%s: Get(%q) = %+v, %d", what, s, n, e)
		}
		var want []string
		if e == api.OK {
			want = m.kids(s)
		}
		if kids, f := x.Kids(s); f != e || !slices.Equal(kids, want) {
			t.Fatalf("%s: Kids(%q) = %q, %d, want %q, %d", what, s, kids, f, want, e)
		}
	}
}

// step makes one call, of a tree and of its model.
func step(t *testing.T, r *rand.Rand, x *Tree, m *model, paths []string, when int) {
	t.Helper()
	s := paths[r.Intn(len(paths))]
	if known := x.Paths(); r.Intn(2) == 0 {
		s = known[r.Intn(len(known))]
	}
	data := strings.Repeat("d", []int{0, 1, 59, 60, 61}[r.Intn(5)])
	version := r.Intn(5) - 2
	var what string
	var got, want string
	var e, f api.Errno
	switch r.Intn(6) {
	case 0, 1, 2:
		owner, serial := max(r.Intn(9)-5, -2), r.Intn(3) == 0
		what = "Create"
		got, e = x.Create(s, data, owner, when, serial)
		want, f = m.create(s, data, owner, when, serial)
	case 3:
		what = "Set"
		a, ea := x.Set(s, data, version, when)
		b, eb := m.set(s, data, version, when)
		got, e, want, f = strconv.Itoa(a), ea, strconv.Itoa(b), eb
	case 4:
		what = "Delete"
		e, f = x.Delete(s, version), m.remove(s, version)
	case 5:
		what = "Check"
		e, f = x.Check(s, version), m.check(s, version)
	}
	if got != want || e != f {
		t.Fatalf("%d: %s of %q = %q, %d, want %q, %d", when, what, s, got, e, want, f)
	}
}

// P9.1, P9.2, P9.3: whatever is called, a tree answers as its model does, and so do its copies.
func TestModel(t *testing.T) {
	long := "/" + strings.Repeat("l", 20)
	paths := []string{
		"/", "/a", "/b", "/a-", "/a/b", "/a/c", "/a/b/c", "/a/b/c/d", "/b/a", "/b/b", "/c/c/c", "/n", "/a/n",
		"/n0000000000", "/n0000000001", "/a/n0000000002", long, long + long, long + long + "/last", "/elevenbytes",
		"", "a", "//", "/a/", "/A", "/a//b", "/" + strings.Repeat("x", 21), strings.Repeat("/x", 31),
	}
	for seed := range 40 {
		r := rand.New(rand.NewSource(int64(seed)))
		x, m := New(), model{{path: "/"}}
		for when := range 500 {
			step(t, r, x, &m, paths, when-3)
			if when%7 == 0 {
				m.equals(t, "after "+strconv.Itoa(when), x, paths)
			}
			if when%50 == 0 {
				y, k := x.Clone(), slices.Clone(m)
				step(t, r, y, &k, paths, when)
				k.equals(t, "the copy", y, paths)
				m.equals(t, "copied", x, paths)
			}
		}
	}
}
