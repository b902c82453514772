package tree

import (
	"bytes"
	"math"
	"slices"
	"strconv"
	"strings"
	"testing"

	"orchard/api"
	"orchard/path"
	"orchard/pith"
)

// long returns so many bytes of data.
func long(size int) string {
	return strings.Repeat("0123456789", size/10+1)[:size]
}

// creates creates nodes without data and owner.
func creates(t *testing.T, x *Tree, list ...string) {
	t.Helper()
	for _, s := range list {
		if got, e := x.Create(s, "", 0, 1, false); got != s || e != api.OK {
			t.Fatalf("Create(%q) = %q, %d", s, got, e)
		}
	}
}

// gets checks a node.
func gets(t *testing.T, x *Tree, s string, want Node) {
	t.Helper()
	if n, e := x.Get(s); n != want || e != api.OK {
		t.Errorf("Get(%q) = %+v, %d, want %+v", s, n, e, want)
	}
}

// unchanged runs a call that returns an error, and checks it, and that the tree is as it was.
func unchanged(t *testing.T, what string, x *Tree, want api.Errno, call func() api.Errno) {
	t.Helper()
	before := x.Clone()
	if e := call(); e != want {
		t.Errorf("%s: %d, want %d", what, e, want)
	}
	if x != nil && !x.Same(before) {
		t.Errorf("%s: the tree changed", what)
	}
}

// refuses checks a Create that returns an error.
func refuses(t *testing.T, x *Tree, s, data string, serial bool, want api.Errno) {
	t.Helper()
	unchanged(t, "Create "+s, x, want, func() api.Errno {
		got, e := x.Create(s, data, 3, 9, serial)
		if got != "" {
			t.Errorf("Create(%q) = %q beside %d", s, got, e)
		}
		return e
	})
}

// noPaths are texts that are no paths.
func noPaths() []string {
	return []string{"", "a", "/a/", "//", "//a", "/A", "/a b", "/" + strings.Repeat("x", 21), strings.Repeat("/x", 31)}
}

// P9.1: a new tree has only the root, and nothing in it.
func TestNew(t *testing.T) {
	x := New()
	gets(t, x, "/", Node{})
	if x.Len() != 1 || !slices.Equal(x.Paths(), []string{"/"}) {
		t.Errorf("%d, %q", x.Len(), x.Paths())
	}
	if kids, e := x.Kids("/"); len(kids) != 0 || e != api.OK {
		t.Errorf("Kids = %q, %d", kids, e)
	}
	creates(t, x, "/a")
	if New().Len() != 1 {
		t.Error("two new trees share their nodes")
	}
}

// P9.1: the errors of Get and Kids.
func TestGetErrors(t *testing.T) {
	x := New()
	creates(t, x, "/a", "/a/b")
	for _, tree := range []*Tree{x, nil} {
		for _, s := range append(noPaths(), "/b", "/a/c", "/a/b/c", "/b/b") {
			want := api.ErrNode
			if path.Check(s) != api.OK {
				want = api.ErrPath
			}
			if n, e := tree.Get(s); n != (Node{}) || e != want {
				t.Errorf("Get(%q) = %+v, %d, want %d", s, n, e, want)
			}
			if kids, e := tree.Kids(s); len(kids) != 0 || e != want {
				t.Errorf("Kids(%q) = %q, %d, want %d", s, kids, e, want)
			}
		}
	}
}

// P9.1: Kids are those next below a node alone, in order; Paths are in order of their bytes.
func TestKids(t *testing.T) {
	x := New()
	creates(t, x, "/b", "/a", "/a/z", "/a/b", "/a/b/d", "/a/b/c", "/a-", "/ab", "/a/-", "/a/0", "/ab/x")
	for s, want := range map[string][]string{
		"/":      {"a", "a-", "ab", "b"},
		"/a":     {"-", "0", "b", "z"},
		"/a/b":   {"c", "d"},
		"/ab":    {"x"},
		"/a-":    nil,
		"/a/b/c": nil,
	} {
		if kids, e := x.Kids(s); !slices.Equal(kids, want) || e != api.OK {
			t.Errorf("Kids(%q) = %q, %d", s, kids, e)
		}
	}
	want := []string{"/", "/a", "/a-", "/a/-", "/a/0", "/a/b", "/a/b/c", "/a/b/d", "/a/z", "/ab", "/ab/x", "/b"}
	if got := x.Paths(); !slices.Equal(got, want) || x.Len() != len(want) {
		t.Errorf("Paths = %q", got)
	}
}

// P9.1: the nodes of an owner, in order; 0 is none.
func TestOwned(t *testing.T) {
	x := New()
	creates(t, x, "/p")
	for i, s := range []string{"/z", "/p/b", "/a", "/p/a", "/p-"} {
		if _, e := x.Create(s, "", []int{7, 7, 8, 7, -1}[i], 1, false); e != api.OK {
			t.Fatal(s, e)
		}
	}
	for owner, want := range map[int][]string{
		7: {"/p/a", "/p/b", "/z"}, 8: {"/a"}, -1: {"/p-"}, 0: nil, 9: nil, math.MaxInt: nil, math.MinInt: nil,
	} {
		if got := x.Owned(owner); !slices.Equal(got, want) {
			t.Errorf("Owned(%d) = %q", owner, got)
		}
	}
}

// Rule 4: what was returned is no part of the tree.
func TestResultsAreNew(t *testing.T) {
	x := New()
	creates(t, x, "/a", "/b")
	if _, e := x.Create("/c", "", 5, 1, false); e != api.OK {
		t.Fatal(e)
	}
	before := x.Clone()
	kids, _ := x.Kids("/")
	paths, owned := x.Paths(), x.Owned(5)
	kids[0], paths[0], owned[0] = "x", "x", "x"
	again, _ := x.Kids("/")
	if again[0] != "a" || x.Paths()[0] != "/" || x.Owned(5)[0] != "/c" || !x.Same(before) {
		t.Error("a result is shared")
	}
}

// P9.1 to P9.4: a nil Tree has no nodes.
func TestNilTree(t *testing.T) {
	var x *Tree
	if x.Len() != 0 || len(x.Paths()) != 0 || len(x.Owned(1)) != 0 || len(x.Owned(0)) != 0 {
		t.Error("a nil Tree has nodes")
	}
	if n, e := x.Get("/"); n != (Node{}) || e != api.ErrNode {
		t.Error("Get", n, e)
	}
	if kids, e := x.Kids("/"); len(kids) != 0 || e != api.ErrNode {
		t.Error("Kids", kids, e)
	}
	refuses(t, x, "a", "", false, api.ErrPath)
	refuses(t, x, "/", "", false, api.ErrExists)
	refuses(t, x, "/a", long(61), false, api.ErrLong)
	refuses(t, x, "/a", "", false, api.ErrNode)
	refuses(t, x, "/a", "", true, api.ErrNode)
	for s, want := range map[string]api.Errno{"a": api.ErrPath, "/": api.ErrNode, "/a": api.ErrNode} {
		n, e := x.Set(s, long(61), 5, 1)
		if n != 0 || e != want || x.Check(s, 5) != want || x.Delete(s, -1) != want {
			t.Errorf("%q: %d, %d, %d, %d", s, n, e, x.Check(s, 5), x.Delete(s, -1))
		}
	}
	if got := x.Lay([]byte("b")); string(got) != "b\x00\x00\x00\x00\x00\x00" {
		t.Errorf("Lay = %x", got)
	}
}

// P9.2: what a created node has, and what its parent gets.
func TestCreate(t *testing.T) {
	x := New()
	for _, c := range []struct {
		s, data     string
		owner, when int
	}{
		{"/a", "data", 0, 5},
		{"/a/b", "", 7, 6},
		{"/a/c", long(60), math.MaxInt, math.MaxInt},
		{"/a/d", "\x00\xff", -1, -9},
		{"/a/e", "", math.MinInt, math.MinInt},
		{"/" + strings.Repeat("x", 20), long(59), 0, 0},
	} {
		if got, e := x.Create(c.s, c.data, c.owner, c.when, false); got != c.s || e != api.OK {
			t.Fatalf("Create(%q) = %q, %d", c.s, got, e)
		}
		gets(t, x, c.s, Node{Data: c.data, Owner: c.owner, Made: c.when, Set: c.when})
	}
	gets(t, x, "/a", Node{Data: "data", Made: 5, Set: 5, Below: 4})
	gets(t, x, "/", Node{Below: 2})
	deep := strings.Repeat("/a", 30)
	for i := 2; i <= 30; i++ {
		creates(t, x, deep[:2*i])
	}
	gets(t, x, deep, Node{Made: 1, Set: 1})
	gets(t, x, deep[:58], Node{Made: 1, Set: 1, Below: 1})
}

// P9.2: each error, and that nothing is created then.
func TestCreateErrors(t *testing.T) {
	x := New()
	creates(t, x, "/a", "/a/b")
	for i, owner := range []int{7, -7} {
		if _, e := x.Create("/e"+strconv.Itoa(i), "", owner, 1, false); e != api.OK {
			t.Fatal(e)
		}
	}
	for _, serial := range []bool{false, true} {
		for _, s := range noPaths() {
			refuses(t, x, s, "", serial, api.ErrPath)
			refuses(t, x, s, long(61), serial, api.ErrPath)
		}
		refuses(t, x, "/", "", serial, api.ErrExists)
		refuses(t, x, "/", long(61), serial, api.ErrExists)
		refuses(t, x, "/c", long(61), serial, api.ErrLong)
		refuses(t, x, "/c", long(100000), serial, api.ErrLong)
		refuses(t, x, "/b/c", "", serial, api.ErrNode)
		refuses(t, x, "/b/c", long(61), serial, api.ErrLong)
		refuses(t, x, "/e0/c", "", serial, api.ErrEphem)
		refuses(t, x, "/e1/c", "", serial, api.ErrEphem)
		refuses(t, x, "/e0/c", long(61), serial, api.ErrLong)
		refuses(t, x, "/e0/c/d", "", serial, api.ErrNode)
	}
	refuses(t, x, "/a", "", false, api.ErrExists)
	refuses(t, x, "/a/b", "", false, api.ErrExists)
	refuses(t, x, "/a", long(61), false, api.ErrLong)
	// No longer paths with ten more bytes: a part of 21, and 61 bytes in all.
	refuses(t, x, "/elevenbytes", "", true, api.ErrPath)
	refuses(t, x, "/e0/elevenbytes", "", true, api.ErrEphem)
	parts := "/" + strings.Repeat("y", 20)
	creates(t, x, parts, parts+parts, parts+parts+"/123456")
	refuses(t, x, parts+parts+"/123456/n", "", true, api.ErrPath)
	for i, part := range []string{"/123456", "/1234567"} {
		want := path.Serial(parts+parts+part, i)
		if got, e := x.Create(parts+parts+part, "", 0, 1, true); got != want || e != api.OK {
			t.Errorf("a path of %d bytes: %q, %d", len(want), got, e)
		}
	}
	refuses(t, x, parts+parts+"/12345678", "", true, api.ErrPath)
}

// P9.2: the numbers of a parent are given in turn, whatever is before them, and never again.
func TestSerial(t *testing.T) {
	x := New()
	creates(t, x, "/a", "/b")
	for i, s := range []string{"/a/n", "/a/n", "/a/m", "/b/n", "/n", "/a/tenletters"} {
		want := s + []string{"0000000000", "0000000001", "0000000002", "0000000000", "0000000000", "0000000003"}[i]
		if got, e := x.Create(s, "d", 0, i, true); got != want || e != api.OK {
			t.Errorf("Create(%q) = %q, %d, want %q", s, got, e, want)
		}
		gets(t, x, want, Node{Data: "d", Made: i, Set: i})
	}
	gets(t, x, "/a", Node{Made: 1, Set: 1, Below: 4, Serial: 4})
	gets(t, x, "/b", Node{Made: 1, Set: 1, Below: 1, Serial: 1})
	gets(t, x, "/", Node{Below: 3, Serial: 1})
	if e := x.Delete("/a/n0000000001", 0); e != api.OK {
		t.Fatal(e)
	}
	creates(t, x, "/a/n")
	if got, e := x.Create("/a/n", "", 9, 1, true); got != "/a/n0000000004" || e != api.OK {
		t.Errorf("after a Delete: %q, %d", got, e)
	}
	gets(t, x, "/a", Node{Made: 1, Set: 1, Below: 7, Serial: 5})
	// The next path is taken: the number is not given.
	creates(t, x, "/a/n0000000005")
	refuses(t, x, "/a/n", "", true, api.ErrExists)
	if got, e := x.Create("/a/m", "", 0, 1, true); got != "/a/m0000000005" || e != api.OK {
		t.Errorf("the same number: %q, %d", got, e)
	}
}

// P9.2: sixty nodes, and one more; the other errors are returned before ErrQuota.
func TestQuota(t *testing.T) {
	x := New()
	creates(t, x, "/e")
	for i := x.Len(); i < 59; i++ {
		creates(t, x, "/n"+strconv.Itoa(i))
	}
	if _, e := x.Create("/o", "", 7, 1, false); e != api.OK || x.Len() != 60 {
		t.Fatalf("the last one: %d, %d nodes", e, x.Len())
	}
	refuses(t, x, "/new", "", false, api.ErrQuota)
	refuses(t, x, "/new", "", true, api.ErrQuota)
	refuses(t, x, "/e/new", "", false, api.ErrQuota)
	refuses(t, x, "/e", "", false, api.ErrExists)
	refuses(t, x, "/", "", false, api.ErrExists)
	refuses(t, x, "/new", long(61), false, api.ErrLong)
	refuses(t, x, "/new/new", "", false, api.ErrNode)
	refuses(t, x, "/o/new", "", false, api.ErrEphem)
	refuses(t, x, "/elevenbytes", "", true, api.ErrPath)
	if v, e := x.Set("/e", "still", -1, 1); v != 1 || e != api.OK {
		t.Errorf("Set: %d, %d", v, e)
	}
	if e := x.Delete("/o", -1); e != api.OK {
		t.Errorf("Delete: %d", e)
	}
	creates(t, x, "/new")
	refuses(t, x, "/o", "", false, api.ErrQuota)
}

// P9.3: a version below 0 is any, another one must be the node's.
func TestVersion(t *testing.T) {
	x := New()
	creates(t, x, "/a")
	for version := range 4 {
		for _, v := range []int{math.MinInt, -2, -1, version} {
			if e := x.Check("/a", v); e != api.OK {
				t.Errorf("Check(%d) of %d = %d", v, version, e)
			}
		}
		for _, v := range []int{0, 1, 2, 3, 4, math.MaxInt} {
			if v == version {
				continue
			}
			unchanged(t, "Check", x, api.ErrVersion, func() api.Errno { return x.Check("/a", v) })
			unchanged(t, "Delete", x, api.ErrVersion, func() api.Errno { return x.Delete("/a", v) })
			unchanged(t, "Set", x, api.ErrVersion, func() api.Errno {
				n, e := x.Set("/a", long(61), v, 2)
				if n != 0 {
					t.Errorf("Set = %d", n)
				}
				return e
			})
		}
		if v, e := x.Set("/a", "x", []int{version, -1, math.MinInt, version}[version], 2); v != version+1 || e != api.OK {
			t.Errorf("Set = %d, %d", v, e)
		}
	}
}

// P9.3: what Set changes, and what it does not.
func TestSet(t *testing.T) {
	x := New()
	if s, e := x.Create("/a", "old", 0, 5, false); s != "/a" || e != api.OK {
		t.Fatal(s, e)
	}
	if s, e := x.Create("/a/n", "old", 7, 6, true); s != "/a/n0000000000" || e != api.OK {
		t.Fatal(s, e)
	}
	for i, data := range []string{"new", long(60), "", "\x00\xff"} {
		if v, e := x.Set("/a", data, i, 10+i); v != i+1 || e != api.OK {
			t.Errorf("Set = %d, %d", v, e)
		}
		gets(t, x, "/a", Node{Data: data, Version: i + 1, Below: 1, Made: 5, Set: 10 + i, Serial: 1})
	}
	if v, e := x.Set("/a/n0000000000", "own", -1, -3); v != 1 || e != api.OK {
		t.Errorf("Set = %d, %d", v, e)
	}
	gets(t, x, "/a/n0000000000", Node{Data: "own", Version: 1, Owner: 7, Made: 6, Set: -3})
	if v, e := x.Set("/", "root", 0, 20); v != 1 || e != api.OK {
		t.Errorf("Set of the root = %d, %d", v, e)
	}
	gets(t, x, "/", Node{Data: "root", Version: 1, Below: 1, Set: 20})
	creates(t, x, "/b")
	gets(t, x, "/", Node{Data: "root", Version: 1, Below: 2, Set: 20})
}

// P9.3: the errors of Set, Check and Delete, and that nothing changes then.
func TestChangeErrors(t *testing.T) {
	x := New()
	creates(t, x, "/a", "/a/b", "/c")
	for _, s := range append(noPaths(), "/d", "/a/c", "/a/b/c") {
		want := api.ErrNode
		if path.Check(s) != api.OK {
			want = api.ErrPath
		}
		for _, version := range []int{-1, 0, 1} {
			unchanged(t, "Check "+s, x, want, func() api.Errno { return x.Check(s, version) })
			unchanged(t, "Delete "+s, x, want, func() api.Errno { return x.Delete(s, version) })
			unchanged(t, "Set "+s, x, want, func() api.Errno {
				n, e := x.Set(s, long(61), version, 9)
				if n != 0 {
					t.Errorf("Set(%q) = %d", s, n)
				}
				return e
			})
		}
	}
	for _, size := range []int{61, 62, 100000} {
		unchanged(t, "Set of much", x, api.ErrLong, func() api.Errno {
			n, e := x.Set("/c", long(size), 0, 9)
			if n != 0 {
				t.Errorf("Set = %d", n)
			}
			return e
		})
	}
	unchanged(t, "Delete of the root", x, api.ErrArg, func() api.Errno { return x.Delete("/", -1) })
	unchanged(t, "Delete of the root, its version", x, api.ErrArg, func() api.Errno { return x.Delete("/", 0) })
	unchanged(t, "Delete of the root, another version", x, api.ErrVersion, func() api.Errno { return x.Delete("/", 1) })
	unchanged(t, "Delete of a parent", x, api.ErrKids, func() api.Errno { return x.Delete("/a", -1) })
	unchanged(t, "Delete of a parent, its version", x, api.ErrKids, func() api.Errno { return x.Delete("/a", 0) })
	unchanged(t, "Delete of a parent, another version", x, api.ErrVersion, func() api.Errno { return x.Delete("/a", 1) })
	alone := New()
	unchanged(t, "Delete of the root alone", alone, api.ErrArg, func() api.Errno { return alone.Delete("/", -1) })
}

// P9.3: what Delete removes, and what the parent gets.
func TestDelete(t *testing.T) {
	x := New()
	creates(t, x, "/a", "/a/b", "/a/bc", "/a-")
	if e := x.Delete("/a/b", 0); e != api.OK {
		t.Fatal(e)
	}
	if n, e := x.Get("/a/b"); n != (Node{}) || e != api.ErrNode {
		t.Error("it is still there")
	}
	gets(t, x, "/a", Node{Made: 1, Set: 1, Below: 3})
	unchanged(t, "one kid is left", x, api.ErrKids, func() api.Errno { return x.Delete("/a", -1) })
	if e := x.Delete("/a/bc", -1); e != api.OK {
		t.Fatal(e)
	}
	gets(t, x, "/a", Node{Made: 1, Set: 1, Below: 4})
	if e := x.Delete("/a", 0); e != api.OK {
		t.Fatal(e)
	}
	gets(t, x, "/", Node{Below: 3})
	gets(t, x, "/a-", Node{Made: 1, Set: 1})
	if got := x.Paths(); !slices.Equal(got, []string{"/", "/a-"}) {
		t.Errorf("Paths = %q", got)
	}
	creates(t, x, "/a")
	gets(t, x, "/a", Node{Made: 1, Set: 1})
}

// P9.4: a copy has the same nodes, and neither changes with the other.
func TestClone(t *testing.T) {
	x := New()
	creates(t, x, "/a", "/b")
	y := x.Clone()
	if !y.Same(x) || y.Len() != 3 {
		t.Fatal("a copy differs")
	}
	if _, e := y.Set("/a", "y", 0, 2); e != api.OK {
		t.Fatal(e)
	}
	gets(t, x, "/a", Node{Made: 1, Set: 1})
	creates(t, x, "/a/x")
	if e := x.Delete("/b", 0); e != api.OK {
		t.Fatal(e)
	}
	gets(t, y, "/b", Node{Made: 1, Set: 1})
	gets(t, y, "/", Node{Below: 2})
	if y.Len() != 3 {
		t.Error("a copy changed")
	}
	var none *Tree
	z := none.Clone()
	if z == nil || !z.Same(New()) {
		t.Error("a copy of nil is not New")
	}
	creates(t, z, "/a")
}

// P9.4: trees are the same if all of their nodes are, with all of their fields.
func TestSame(t *testing.T) {
	var none *Tree
	if !none.Same(nil) || none.Same(New()) || New().Same(nil) || !New().Same(New()) {
		t.Error("nil and New")
	}
	one, list := New(), []*Tree{nil, New()}
	list = append(list, one)
	creates(t, one, "/a")
	for _, s := range []string{"/b", "/a/b"} {
		x := one.Clone()
		creates(t, x, s)
		list = append(list, x)
	}
	for _, n := range []Node{{}, {Data: "x"}, {Version: 1}, {Below: 1}, {Owner: 1}, {Made: 1}, {Set: 1}, {Serial: 1}} {
		x := one.Clone()
		x.nodes["/a"] = n
		list = append(list, x)
	}
	for i, x := range list {
		for k, y := range list {
			if x.Same(y) != (i == k) {
				t.Errorf("%d and %d", i, k)
			}
		}
	}
}

// several returns a tree with something in every field, and all that may be in a node.
func several(t *testing.T) *Tree {
	t.Helper()
	x := New()
	creates(t, x, "/b", "/a", "/a-", "/a/b")
	for _, s := range []string{"/a/n", "/a/n", "/m"} {
		if _, e := x.Create(s, long(60), 7, 9, true); e != api.OK {
			t.Fatal(e)
		}
	}
	for when, s := range []string{"/", "/a", "/a", "/a/b", "/m0000000000"} {
		if _, e := x.Set(s, "set", -1, 300+when); e != api.OK {
			t.Fatal(e)
		}
	}
	if e := x.Delete("/a/n0000000000", 0); e != api.OK {
		t.Fatal(e)
	}
	return x
}

// laid is the encoding of nodes by the letter of P9.4.
func laid(list ...modelNode) []byte {
	b := pith.Num(nil, len(list))
	for _, n := range list {
		b = pith.Text(b, n.path)
		b = pith.Text(b, n.Data)
		for _, x := range []int{n.Version, n.Below, n.Owner, n.Made, n.Set, n.Serial} {
			b = pith.Num(b, x)
		}
	}
	return b
}

// P9.4: the encoding, by its letter.
func TestLay(t *testing.T) {
	x := several(t)
	want := laid(
		modelNode{"/", Node{Data: "set", Version: 1, Below: 4, Set: 300, Serial: 1}},
		modelNode{"/a", Node{Data: "set", Version: 2, Below: 4, Made: 1, Set: 302, Serial: 2}},
		modelNode{"/a-", Node{Made: 1, Set: 1}},
		modelNode{"/a/b", Node{Data: "set", Version: 1, Made: 1, Set: 303}},
		modelNode{"/a/n0000000001", Node{Data: long(60), Owner: 7, Made: 9, Set: 9}},
		modelNode{"/b", Node{Made: 1, Set: 1}},
		modelNode{"/m0000000000", Node{Data: "set", Version: 1, Owner: 7, Made: 9, Set: 304}},
	)
	before := x.Clone()
	if got := x.Lay(nil); !bytes.Equal(got, want) {
		t.Errorf("Lay = %x\nwant  %x", got, want)
	}
	if got := x.Lay([]byte("head")); string(got) != "head"+string(want) {
		t.Errorf("Lay behind bytes = %x", got)
	}
	if !x.Same(before) {
		t.Error("the tree changed")
	}
	root := "\x00\x00\x00\x00\x00\x01" + "\x00\x01/" + "\x00\x00" + strings.Repeat("\x00", 36)
	if got := New().Lay([]byte{}); string(got) != root {
		t.Errorf("New: %x", got)
	}
}

// P9.4, with P1.1: numbers that cannot be encoded are the nearest that can.
func TestLayBounds(t *testing.T) {
	x := New()
	if _, e := x.Create("/a", "", math.MaxInt, math.MaxInt, false); e != api.OK {
		t.Fatal(e)
	}
	if _, e := x.Create("/b", "", math.MinInt, -1, false); e != api.OK {
		t.Fatal(e)
	}
	want := laid(
		modelNode{"/", Node{Below: 2}},
		modelNode{"/a", Node{Owner: pith.Most, Made: pith.Most, Set: pith.Most}},
		modelNode{"/b", Node{}},
	)
	if got := x.Lay(nil); !bytes.Equal(got, want) {
		t.Errorf("%x", got)
	}
}

// P9.4, with rule 4: b is not modified, not even behind its end, and the result shares nothing with it.
func TestLayIsNew(t *testing.T) {
	for _, x := range []*Tree{nil, New(), several(t)} {
		whole := []byte(long(2000))
		out := x.Lay(whole[:2])
		if string(whole) != long(2000) {
			t.Error("Lay wrote to its argument")
		}
		whole[0] = 'x'
		if out[0] != '0' {
			t.Error("Lay shares its argument")
		}
		one, two := x.Lay(out), several(t).Lay(out)
		if !bytes.Equal(one, append(slices.Clone(out), x.Lay(nil)...)) || !bytes.HasPrefix(two, out) {
			t.Error("two results are shared")
		}
	}
}

// fails checks that a text is no tree: the reader has failed, and the result is New.
func fails(t *testing.T, what string, text string) {
	t.Helper()
	r := pith.Read(text)
	x := Read(r)
	if r.OK() || r.Done() != api.ErrForm {
		t.Errorf("%s: the reader has not failed", what)
	}
	if x == nil || !x.Same(New()) {
		t.Errorf("%s: the result is not New", what)
	}
}

// reads checks that a text is a tree, and returns it.
func reads(t *testing.T, what string, text string) *Tree {
	t.Helper()
	r := pith.Read(text)
	x := Read(r)
	if r.Done() != api.OK {
		t.Fatalf("%s: the reader has failed", what)
	}
	if string(x.Lay(nil)) != text {
		t.Errorf("%s: laid again it differs", what)
	}
	return x
}

// P9.4: what was laid is read, one tree after the other, and lives on its own.
func TestRead(t *testing.T) {
	full := New()
	for i := range 59 {
		s := "/" + string("-0abcdefghijklmnopqrstuvwxyz"[i%28]) + strconv.Itoa(i) + strings.Repeat("x", i%18)
		if _, e := full.Create(s, long(i), i%5, i, false); e != api.OK {
			t.Fatal(e)
		}
	}
	deep := New()
	for i := range 30 {
		creates(t, deep, strings.Repeat("/a", i+1))
	}
	trees := []*Tree{New(), several(t), full, deep}
	var all []byte
	for i, x := range trees {
		if y := reads(t, "tree "+strconv.Itoa(i), string(x.Lay(nil))); !y.Same(x) {
			t.Errorf("tree %d differs", i)
		}
		all = x.Lay(all)
	}
	r := pith.Read(string(pith.Num(all, 77)))
	for i, x := range trees {
		if y := Read(r); !y.Same(x) || !r.OK() {
			t.Errorf("tree %d in a row differs", i)
		}
	}
	if r.Num(77) != 77 || r.Done() != api.OK {
		t.Error("what is behind a tree")
	}
	y := reads(t, "several", string(trees[1].Lay(nil)))
	creates(t, y, "/new")
	if !trees[1].Same(several(t)) || y.Same(trees[1]) {
		t.Error("two trees share their nodes")
	}
}

// P9.4: all numbers are read, up to the greatest, and a Serial of more than ten digits is used.
func TestReadNumbers(t *testing.T) {
	root := modelNode{"/", Node{Data: "r", Version: pith.Most, Below: 1, Made: 0, Set: 2, Serial: 10000000000}}
	own := modelNode{"/a", Node{Data: long(60), Version: 1, Below: 2, Owner: pith.Most, Made: 4, Set: 5, Serial: pith.Most}}
	x := reads(t, "numbers", string(laid(root, own)))
	gets(t, x, "/", root.Node)
	gets(t, x, "/a", own.Node)
	if got := x.Owned(pith.Most); !slices.Equal(got, []string{"/a"}) {
		t.Errorf("Owned = %q", got)
	}
	refuses(t, x, "/tenletters", "", true, api.ErrPath)
	if got, e := x.Create("/nineovers", "", 0, 1, true); got != "/nineovers10000000000" || e != api.OK {
		t.Errorf("Create = %q, %d", got, e)
	}
}

// P9.4: an encoding that is truncated is none; one that is extended is followed by bytes.
func TestReadLength(t *testing.T) {
	for _, x := range []*Tree{New(), several(t)} {
		text := string(x.Lay(nil))
		for size := range len(text) {
			fails(t, "of "+strconv.Itoa(size)+" bytes", text[:size])
		}
		for _, more := range []string{"\x00", "x", text} {
			r := pith.Read(text + more)
			if y := Read(r); !y.Same(x) || !r.OK() || r.Done() != api.ErrForm {
				t.Error("extended")
			}
		}
	}
}

// P9.4: whatever bit of an encoding changes, there is either no tree, or another one of this form.
func TestReadChanged(t *testing.T) {
	x := several(t)
	text := x.Lay(nil)
	for i := range text {
		for bit := range 8 {
			b := slices.Clone(text)
			b[i] ^= 1 << bit
			r := pith.Read(string(b))
			y := Read(r)
			if !r.OK() && !y.Same(New()) {
				t.Errorf("byte %d, bit %d: the result is not New", i, bit)
			}
			// A lower count leaves nodes behind the tree.
			if again := y.Lay(nil); r.OK() && (y.Same(x) || !bytes.HasPrefix(b, again) || len(again) < len(b) && r.Done() == api.OK) {
				t.Errorf("byte %d, bit %d: laid again it differs", i, bit)
			}
		}
	}
}

// P9.4: what has the form of an encoding, but is no tree.
func TestReadNoTree(t *testing.T) {
	node := func(s string) modelNode { return modelNode{path: s} }
	of := func(s string, n Node) modelNode { return modelNode{s, n} }
	nodes := func(list ...string) []modelNode {
		var out []modelNode
		for _, s := range list {
			out = append(out, node(s))
		}
		return out
	}
	many := nodes("/")
	for i := range 60 {
		many = append(many, node("/"+strconv.Itoa(100+i)))
	}
	reads(t, "60 nodes", string(laid(many[:60]...)))
	reads(t, "three", string(laid(nodes("/", "/a", "/a/b")...)))
	reads(t, "an owner", string(laid(node("/"), of("/a", Node{Owner: 1}), node("/b"))))
	for what, list := range map[string][]modelNode{
		"no nodes":               nil,
		"61 nodes":               many,
		"no root":                nodes("/a"),
		"no root, two":           nodes("/a", "/a/b"),
		"the root twice":         nodes("/", "/"),
		"the root last":          nodes("/a", "/"),
		"a node twice":           nodes("/", "/a", "/a"),
		"another order":          nodes("/", "/b", "/a"),
		"a parent behind":        nodes("/", "/a/b", "/a"),
		"an order by parts":      nodes("/", "/a", "/a/b", "/a-"),
		"no parent":              nodes("/", "/a/b"),
		"no parent, a neighbor":  nodes("/", "/a", "/ab/c"),
		"an empty path":          nodes("", "/"),
		"an empty path alone":    nodes(""),
		"no path":                nodes("/", "a"),
		"no path, an empty part": nodes("/", "//"),
		"no path, its end":       nodes("/", "/a", "/a/"),
		"no path, a capital":     nodes("/", "/A"),
		"a part of 21 bytes":     nodes("/", "/"+strings.Repeat("a", 21)),
		"data of 61 bytes":       {node("/"), of("/a", Node{Data: long(61)})},
		"data of the root":       {of("/", Node{Data: long(61)})},
		"the root has an owner":  {of("/", Node{Owner: 1})},
		"below an owner":         {node("/"), of("/a", Node{Owner: 1}), node("/a/b")},
	} {
		fails(t, what, string(laid(list...)))
	}
	deep := nodes("/")
	for i := range 31 {
		deep = append(deep, node(strings.Repeat("/a", i+1)))
	}
	reads(t, "60 bytes", string(laid(deep[:31]...)))
	fails(t, "62 bytes", string(laid(deep...)))
	deep[31] = node(deep[30].path + "a")
	fails(t, "61 bytes", string(laid(deep...)))
	deep[30] = node(deep[29].path + "/b")
	reads(t, "60 bytes again", string(laid(deep[:31]...)))
	fails(t, "the count is too great", string(pith.Num(nil, 2))+string(laid(node("/")))[6:])
	fails(t, "the greatest count", string(pith.Num(nil, pith.Most))+string(laid(node("/")))[6:])
	fails(t, "the count 0", string(pith.Num(nil, 0))+string(laid(node("/")))[6:])
	fails(t, "nothing", "")
	fails(t, "text", "there is no tree in this text, whatever its bytes may say about one")
}

// P9.4: a reader that has failed already, and a nil one, have no tree.
func TestReadFailed(t *testing.T) {
	r := pith.Read(string(several(t).Lay(nil)))
	r.Fail()
	if x := Read(r); !x.Same(New()) || r.OK() {
		t.Error("a reader that has failed")
	}
	if x := Read(nil); !x.Same(New()) {
		t.Error("a nil reader")
	}
	one, two := Read(nil), Read(nil)
	creates(t, one, "/a")
	if two.Len() != 1 {
		t.Error("two results are one tree")
	}
}
