package path

import (
	"math"
	"strings"
	"testing"

	"orchard/api"
)

// letters are the bytes of which a part consists, by the letter of P8.1.
const letters = "abcdefghijklmnopqrstuvwxyz0123456789-"

// several returns paths of up to three parts, and the root.
func several() []string {
	list := []string{"/"}
	for _, a := range []string{"a", "b", "ab", "a-", "-", "0"} {
		list = append(list, "/"+a)
		for _, b := range []string{"a", "b", "aa"} {
			list = append(list, "/"+a+"/"+b, "/"+a+"/"+b+"/a", "/"+a+"/"+b+"/b0")
		}
	}
	return list
}

// P8.1: each byte that may stand in a part, alone and among others, and each that may not.
func TestPartBytes(t *testing.T) {
	for b := range 256 {
		s := string([]byte{byte(b)})
		want := strings.Contains(letters, s)
		for _, part := range []string{s, s + "a", "a" + s, "a" + s + "0", strings.Repeat("z", 19) + s} {
			if Part(part) != want {
				t.Errorf("Part(%q) = %t", part, !want)
			}
		}
	}
}

// P8.1: a part has 1 to 20 bytes.
func TestPartLength(t *testing.T) {
	if MaxPart != 20 {
		t.Errorf("MaxPart is %d", MaxPart)
	}
	for size := range 70 {
		if s := strings.Repeat("a", size); Part(s) != (size >= 1 && size <= 20) {
			t.Errorf("Part of %d bytes = %t", size, Part(s))
		}
	}
	for _, s := range []string{"ä", "a/b", "/", "/a", "a b", "A", "a_b", "a.b", "a\x00", strings.Repeat("a", 100000)} {
		if Part(s) {
			t.Errorf("%.30q is a part", s)
		}
	}
}

// P8.1: which texts are paths.
func TestCheck(t *testing.T) {
	if Root != "/" {
		t.Errorf("Root is %q", Root)
	}
	twenty, sixty := strings.Repeat("a", 20), strings.Repeat("/a", 30)
	for s, want := range map[string]api.Errno{
		"/":                    api.OK,
		"/a":                   api.OK,
		"/-":                   api.OK,
		"/0/z":                 api.OK,
		"/a/b-1/c":             api.OK,
		"/" + letters[:20]:     api.OK,
		"/" + letters[17:]:     api.OK,
		"/" + twenty:           api.OK,
		"/" + twenty + "a":     api.ErrPath,
		"/b/" + twenty:         api.OK,
		"/b/" + twenty + "a":   api.ErrPath,
		"/b/" + twenty + "a/b": api.ErrPath,
		sixty:                  api.OK,
		sixty + "a":            api.ErrPath,
		sixty[2:]:              api.OK,
		sixty + "/":            api.ErrPath,
		"/" + twenty + "/" + twenty + "/" + twenty[:17]: api.OK,
		"/" + twenty + "/" + twenty + "/" + twenty[:18]: api.ErrPath,
		"":                           api.ErrPath,
		"a":                          api.ErrPath,
		"a/b":                        api.ErrPath,
		"a/":                         api.ErrPath,
		"//":                         api.ErrPath,
		"///":                        api.ErrPath,
		"/a/":                        api.ErrPath,
		"//a":                        api.ErrPath,
		"/a//b":                      api.ErrPath,
		"/a/b//":                     api.ErrPath,
		"/A":                         api.ErrPath,
		"/a/B":                       api.ErrPath,
		"/A/b":                       api.ErrPath,
		"/a b":                       api.ErrPath,
		" /a":                        api.ErrPath,
		"/a ":                        api.ErrPath,
		"/.":                         api.ErrPath,
		"/..":                        api.ErrPath,
		"/ä":                         api.ErrPath,
		"/\x00":                      api.ErrPath,
		"/a\n":                       api.ErrPath,
		"/a/\xff":                    api.ErrPath,
		"\\a":                        api.ErrPath,
		strings.Repeat("/a", 100000): api.ErrPath,
		strings.Repeat("/", 100000):  api.ErrPath,
	} {
		if e := Check(s); e != want {
			t.Errorf("Check(%.70q) = %d, want %d", s, e, want)
		}
	}
}

// P8.1: each byte, as a part and within one.
func TestCheckBytes(t *testing.T) {
	for b := range 256 {
		s := string([]byte{byte(b)})
		want := api.ErrPath
		if strings.Contains(letters, s) {
			want = api.OK
		}
		if Check("/"+s) != want || Check("/"+s+"/a") != want || Check("/a/b"+s) != want {
			t.Errorf("byte %d", b)
		}
	}
}

// P8.2: the part before the last /, and the one after it.
func TestUp(t *testing.T) {
	for _, x := range []struct{ s, up, part string }{
		{"/a/bc", "/a", "bc"},
		{"/a", "/", "a"},
		{"/abc", "/", "abc"},
		{"/a/b/c", "/a/b", "c"},
		{"/-/0", "/-", "0"},
		{strings.Repeat("/a", 30), strings.Repeat("/a", 29), "a"},
		{"/" + strings.Repeat("x", 20), "/", strings.Repeat("x", 20)},
		{"/", "", ""},
		{"", "", ""},
		{"a", "", ""},
		{"abc", "", ""},
		{strings.Repeat("x", 100000), "", ""},
	} {
		if up, part := Up(x.s); up != x.up || part != x.part {
			t.Errorf("Up(%.70q) = %q, %q", x.s, up, part)
		}
	}
}

// P8.2: a part is joined with a single /.
func TestJoin(t *testing.T) {
	for _, x := range []struct{ s, part, want string }{
		{"/", "a", "/a"},
		{"/", "a-0", "/a-0"},
		{"/a", "b", "/a/b"},
		{"/a/b", "cd", "/a/b/cd"},
		{strings.Repeat("/a", 30), "b", strings.Repeat("/a", 30) + "/b"},
	} {
		if got := Join(x.s, x.part); got != x.want {
			t.Errorf("Join(%q, %q) = %q", x.s, x.part, got)
		}
	}
}

// P8.2: Join undoes Up, and each path is below its Up alone and what that is below.
func TestUpJoinBelow(t *testing.T) {
	for _, s := range several() {
		if up, part := Up(s); s != "/" && (Join(up, part) != s || !Part(part) || Check(up) != api.OK) {
			t.Errorf("Up(%q) = %q, %q", s, up, part)
		}
		above := map[string]int{}
		for up, rest := s, 4; rest > 0; rest-- {
			up, _ = Up(up)
			above[up]++
		}
		for _, o := range several() {
			if got := Below(s, o); got != (above[o] > 0) {
				t.Errorf("Below(%q, %q) = %t", s, o, got)
			}
		}
	}
}

// P8.2: Below of paths, and below the root of what is no path.
func TestBelow(t *testing.T) {
	for _, x := range []struct {
		s, up string
		want  bool
	}{
		{"/a/b", "/a", true},
		{"/a/b/c", "/a", true},
		{"/a/b/c", "/a/b", true},
		{"/a", "/a", false},
		{"/ab", "/a", false},
		{"/a-/b", "/a", false},
		{"/a", "/a/b", false},
		{"/b/a", "/a", false},
		{"/a/b", "/b", false},
		{"/a", "/", true},
		{"/a/b", "/", true},
		{"/", "/", false},
		{"/", "/a", false},
		{"", "/", false},
		{"a", "/", false},
		{"//", "/", false},
		{"/a/", "/", false},
		{"/A", "/", false},
		{"", "/a", false},
		{strings.Repeat("/a", 30), "/a", true},
		{strings.Repeat("/a", 30), "/", true},
		{strings.Repeat("/a", 31), "/", false},
	} {
		if got := Below(x.s, x.up); got != x.want {
			t.Errorf("Below(%q, %q) = %t", x.s, x.up, got)
		}
	}
}

// P8.2: a number in ten digits, or in more if it has them; below 0 it counts as 0.
func TestSerial(t *testing.T) {
	for _, x := range []struct {
		s    string
		n    int
		want string
	}{
		{"/a/n", 7, "/a/n0000000007"},
		{"/n", 0, "/n0000000000"},
		{"/n", -1, "/n0000000000"},
		{"/n", -7000000000, "/n0000000000"},
		{"/n", math.MinInt, "/n0000000000"},
		{"/n", 42, "/n0000000042"},
		{"/n", 123456789, "/n0123456789"},
		{"/n", 1234567890, "/n1234567890"},
		{"/n", 9999999999, "/n9999999999"},
		{"/n", 10000000000, "/n10000000000"},
		{"/n", 281474976710655, "/n281474976710655"},
		{"/n", math.MaxInt, "/n9223372036854775807"},
		{"/0", 1, "/00000000001"},
		{"", 5, "0000000005"},
	} {
		if got := Serial(x.s, x.n); got != x.want {
			t.Errorf("Serial(%q, %d) = %q", x.s, x.n, got)
		}
	}
}

// Rule 1: no text makes a function panic.
func TestAnyText(t *testing.T) {
	list := []string{"", "/", "//", "///", "a", "a/", "/a/", "\xff/\x00", strings.Repeat("/", 1000), strings.Repeat("x/", 1000)}
	for _, s := range list {
		Part(s)
		Check(s)
		Up(s)
		Serial(s, len(s))
		for _, o := range list {
			Join(s, o)
			Below(s, o)
		}
	}
}
