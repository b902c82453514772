package sum

import (
	"hash/crc32"
	"strings"
	"testing"
)

// divided is P2.1 by the letter: the polynomial 11EDC6F41 in reflected order, bit by bit.
func divided(s string) Sum {
	rest := uint32(0xffffffff)
	for i := range len(s) {
		rest ^= uint32(s[i])
		for range 8 {
			low := rest & 1
			rest >>= 1
			if low == 1 {
				rest ^= 0x82f63b78
			}
		}
	}
	return Sum(^rest)
}

// counted is a string of so many bytes that differ.
func counted(size int) string {
	b := make([]byte, size)
	for i := range b {
		b[i] = byte(i*7 + i/256)
	}
	return string(b)
}

// P2.1: known checksums, among them those of RFC 3720.
func TestOf(t *testing.T) {
	up, down := make([]byte, 32), make([]byte, 32)
	for i := range 32 {
		up[i], down[i] = byte(i), byte(31-i)
	}
	for _, x := range []struct {
		s    string
		want Sum
	}{
		{"", 0},
		{"a", 0xc1d04330},
		{"123456789", 0xe3069283},
		{strings.Repeat("\x00", 32), 0x8a9136aa},
		{strings.Repeat("\xff", 32), 0x62a8ab43},
		{string(up), 0x46dd794e},
		{string(down), 0x113fdb5c},
	} {
		if got := Of(x.s); got != x.want {
			t.Errorf("Of(%q) = %08x, want %08x", x.s, got, x.want)
		}
	}
	if Of() != 0 || Of("", "") != 0 {
		t.Error("nothing")
	}
}

// P2.1: every byte, and strings of many lengths, against the definition and the library.
func TestOfAll(t *testing.T) {
	table := crc32.MakeTable(crc32.Castagnoli)
	check := func(s string) {
		want := divided(s)
		if Sum(crc32.Checksum([]byte(s), table)) != want {
			t.Fatalf("the test's own checksum of %x", s)
		}
		if got := Of(s); got != want {
			t.Errorf("Of(%x) = %08x, want %08x", s, got, want)
		}
	}
	for b := range 256 {
		check(string([]byte{byte(b)}))
		check(string([]byte{0xff, byte(b), 0}))
	}
	for size := range 600 {
		check(counted(size))
	}
}

// P2.1: the list is summed as if it were one string, however it is parted.
func TestParts(t *testing.T) {
	s := counted(60)
	want := Of(s)
	for i := range len(s) + 1 {
		for j := i; j <= len(s); j++ {
			a, b, c := s[:i], s[i:j], s[j:]
			if Of(a, b, c) != want || Of(a).Add(b, c) != want || Of(a).Add(b).Add("", c) != want {
				t.Fatalf("parts of %d, %d and %d bytes", len(a), len(b), len(c))
			}
		}
	}
	if want.Add() != want || want.Add("") != want || Sum(0).Add(s) != want {
		t.Error("Add of nothing, or to nothing")
	}
}

// P2.1, with rule 4: the list is not modified.
func TestListIsKept(t *testing.T) {
	list := []string{"12345", "6789"}
	if Of(list...) != 0xe3069283 || Sum(0).Add(list...) != 0xe3069283 || list[0] != "12345" || list[1] != "6789" {
		t.Error(list)
	}
}

// P2.2: Seal is the checksum as four bytes, the lowest first, and the string.
func TestSeal(t *testing.T) {
	for _, x := range []struct{ s, want string }{
		{"", "\x00\x00\x00\x00"},
		{"a", "\x30\x43\xd0\xc1a"},
		{"123456789", "\x83\x92\x06\xe3123456789"},
	} {
		if got := Seal(x.s); got != x.want {
			t.Errorf("Seal(%q) = %x, want %x", x.s, got, x.want)
		}
	}
}

// P2.2: Open returns what was sealed.
func TestOpen(t *testing.T) {
	for size := range 600 {
		s := counted(size)
		if got, ok := Open(Seal(s)); !ok || got != s {
			t.Fatalf("%d bytes: %x %t", size, got, ok)
		}
	}
	if got, ok := Open(Seal(Seal("ab"))); !ok || got != Seal("ab") {
		t.Error("sealed twice")
	}
}

// refused checks that a text was not sealed.
func refused(t *testing.T, what, text string) {
	t.Helper()
	if got, ok := Open(text); ok || got != "" {
		t.Errorf("%s: %x %t", what, got, ok)
	}
}

// P2.2: Open returns "" and false for what Seal does not return.
func TestOpenDamaged(t *testing.T) {
	for _, s := range []string{"", "a", "abc", "\x00", "\x00\x00", "\x00\x00\x00"} {
		refused(t, "short", s)
	}
	sealed := Seal("123456789")
	for n := range len(sealed) {
		refused(t, "cut", sealed[:n])
	}
	refused(t, "longer", sealed+"\x00")
	refused(t, "highest byte first", "\xe3\x06\x92\x83123456789")
	refused(t, "zeros", "\x00\x00\x00\x00\x00")
	for i := range len(sealed) {
		for bit := range 8 {
			b := []byte(sealed)
			b[i] ^= 1 << bit
			refused(t, "a bit changed", string(b))
		}
	}
}
