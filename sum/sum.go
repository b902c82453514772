// Package sum is layer 2: CRC-32C checksums.
package sum

import (
	"strings"
)

// sealBytes is how many bytes the checksum of a sealed text has.
const sealBytes = 4

// Sum is the checksum of a string.
type Sum uint32

// The remainder of a byte is the sum of those of its two halves, so that two tables
// of 16 serve for one of 256: lowTable[n] is the remainder of the byte n,
// highTable[n] that of the byte n<<4.
var (
	lowTable = [16]Sum{
		0x00000000, 0xf26b8303, 0xe13b70f7, 0x1350f3f4,
		0xc79a971f, 0x35f1141c, 0x26a1e7e8, 0xd4ca64eb,
		0x8ad958cf, 0x78b2dbcc, 0x6be22838, 0x9989ab3b,
		0x4d43cfd0, 0xbf284cd3, 0xac78bf27, 0x5e133c24,
	}
	highTable = [16]Sum{
		0x00000000, 0x105ec76f, 0x20bd8ede, 0x30e349b1,
		0x417b1dbc, 0x5125dad3, 0x61c69362, 0x7198540d,
		0x82f63b78, 0x92a8fc17, 0xa24bb5a6, 0xb21572c9,
		0xc38d26c4, 0xd3d3e1ab, 0xe330a81a, 0xf36e6f75,
	}
)

// Add returns the checksum of the string that s is the checksum of, followed by the list.
func (s Sum) Add(list ...string) Sum {
	rest := ^s
	for _, text := range list {
		for i := range len(text) {
			b := byte(rest) ^ text[i]
			rest = rest>>8 ^ highTable[b>>4] ^ lowTable[b&15]
		}
	}
	return ^rest
}

// Of returns the checksum of the concatenation of the strings.
func Of(list ...string) Sum {
	return Sum(0).Add(list...)
}

// Seal returns the checksum of s as four bytes, the lowest first, followed by s.
func Seal(s string) string {
	return Of(s).bytes() + s
}

// Open returns the string that was sealed as t, or false if there is none.
func Open(t string) (string, bool) {
	if len(t) < sealBytes {
		return "", false
	}
	s := t[sealBytes:]
	if Of(s).bytes() != t[:sealBytes] {
		return "", false
	}
	// A copy, so that who keeps the text does not keep t.
	return strings.Clone(s), true
}

// bytes returns a checksum as four bytes, the lowest first.
func (s Sum) bytes() string {
	return string([]byte{byte(s), byte(s >> 8), byte(s >> 16), byte(s >> 24)})
}
