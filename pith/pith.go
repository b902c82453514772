// Package pith is layer 1: a binary encoding of integers and strings.
package pith

import (
	"strings"

	"orchard/api"
)

// Most is the greatest number that can be encoded.
const Most = 1<<48 - 1

const (
	numBytes  = 6                    // of a number
	sizeBytes = 2                    // of the length of a string
	maxText   = 1<<(8*sizeBytes) - 1 // bytes of a string
)

// Num appends numbers to b, each as six bytes; one outside 0 to Most counts as the nearest of these.
func Num(b []byte, list ...int) []byte {
	out := extend(b, numBytes*len(list))
	for _, n := range list {
		out = bigEndian(out, min(max(n, 0), Most), numBytes)
	}
	return out
}

// Text appends strings to b, each as its length in two bytes and its bytes; a longer string is truncated.
func Text(b []byte, list ...string) []byte {
	more := 0
	for _, s := range list {
		more += sizeBytes + min(len(s), maxText)
	}
	out := extend(b, more)
	for _, s := range list {
		s = s[:min(len(s), maxText)]
		out = bigEndian(out, len(s), sizeBytes)
		out = append(out, s...)
	}
	return out
}

// Flag appends booleans to b, each as a byte 1 or 0.
func Flag(b []byte, list ...bool) []byte {
	out := extend(b, len(list))
	for _, yes := range list {
		if yes {
			out = append(out, 1)
		} else {
			out = append(out, 0)
		}
	}
	return out
}

// extend copies b and leaves room for more bytes: to append to b itself could write
// behind its end, into memory that another slice shares with it.
func extend(b []byte, more int) []byte {
	out := make([]byte, len(b), len(b)+more)
	copy(out, b)
	return out
}

// bigEndian appends the lowest bytes of n to b, so many of them.
func bigEndian(b []byte, n, size int) []byte {
	for i := range size {
		b = append(b, byte(n>>(8*(size-1-i))))
	}
	return b
}

// Reader reads what was encoded, up to the first error.
type Reader struct {
	rest   string
	failed bool
}

// Read returns a reader of s, at its start.
func Read(s string) *Reader {
	return &Reader{rest: s}
}

// Num reads a number of at most most.
func (r *Reader) Num(most int) int {
	return r.number(numBytes, max(most, 0))
}

// Text reads a string of at most most bytes.
func (r *Reader) Text(most int) string {
	size := r.number(sizeBytes, most)
	// A copy, so that who keeps a short text does not keep all that was read.
	return strings.Clone(r.take(size))
}

// Flag reads a boolean.
func (r *Reader) Flag() bool {
	return r.number(1, 1) == 1
}

// Fail causes an error: after it nothing is left.
func (r *Reader) Fail() {
	if r != nil {
		r.rest, r.failed = "", true
	}
}

// OK reports whether there was no error; a nil Reader is not OK.
func (r *Reader) OK() bool {
	return r != nil && !r.failed
}

// Done returns ErrForm if there was an error, or if bytes are left.
func (r *Reader) Done() api.Errno {
	if !r.OK() || r.rest != "" {
		return api.ErrForm
	}
	return api.OK
}

// number reads a number of so many bytes; it is an error if it is above most.
func (r *Reader) number(size, most int) int {
	s := r.take(size)
	n := 0
	for i := range len(s) {
		n = n<<8 | int(s[i])
	}
	if n > most {
		r.Fail()
		return 0
	}
	return n
}

// take reads so many bytes; it is an error if there are fewer.
func (r *Reader) take(size int) string {
	if !r.OK() || len(r.rest) < size {
		r.Fail()
		return ""
	}
	s := r.rest[:size]
	r.rest = r.rest[size:]
	return s
}
