// Package octet is layer 1: see shared/doc/01-octet.md.
package octet

import (
	"math/bits"
	"strings"

	"mailbag/api"
)

// maxSize is how many bytes a number has at most.
const maxSize = 8

// Num lays a number that isn't below nought: how many bytes it has, and these, the highest one first.
func Num(b []byte, n int) []byte {
	n = max(n, 0)
	size := (bits.Len(uint(n)) + 7) / 8
	b = append(b, byte(size))
	for i := range size {
		b = append(b, byte(n>>(8*(size-1-i))))
	}
	return b
}

// Text lays a text: how many bytes it has, and these.
func Text(b []byte, s string) []byte {
	return append(Num(b, len(s)), s...)
}

// Flag lays yes or no.
func Flag(b []byte, yes bool) []byte {
	if yes {
		return append(b, 1)
	}
	return append(b, 0)
}

// Reader reads what was laid, up to a first error.
type Reader struct {
	rest string
	bad  bool
}

// Read is a reader of bytes.
func Read(s string) *Reader {
	return &Reader{rest: s}
}

// Num is a number up to most; 0 behind an error.
func (r *Reader) Num(most int) int {
	size := r.take(1)
	if size == "" {
		return 0
	}
	n, ok := number(r.take(int(size[0])))
	if !ok || n > uint64(max(most, 0)) {
		r.fail()
		return 0
	}
	return int(n)
}

// Text is a text of so many bytes at most.
func (r *Reader) Text(most int) string {
	return r.Raw(r.Num(most))
}

// Raw is so many bytes as they stand.
func (r *Reader) Raw(n int) string {
	// A copy, so that a short text that is kept doesn't keep all that was read.
	return strings.Clone(r.take(n))
}

// Flag is yes or no.
func (r *Reader) Flag() bool {
	s := r.take(1)
	if s != "\x00" && s != "\x01" {
		r.fail()
	}
	return s == "\x01"
}

// Left is how many bytes are left.
func (r *Reader) Left() int {
	if r == nil {
		return 0
	}
	return len(r.rest)
}

// Err is the first error.
func (r *Reader) Err() api.Errno {
	if r == nil || r.bad {
		return api.ErrForm
	}
	return api.OK
}

// End is the first error, or that something is left.
func (r *Reader) End() api.Errno {
	if r.Left() > 0 {
		return api.ErrForm
	}
	return r.Err()
}

// take reads n bytes; where there are fewer it fails, and tells none.
func (r *Reader) take(n int) string {
	if r == nil || n < 1 {
		return ""
	}
	if n > len(r.rest) {
		r.fail()
		return ""
	}
	s := r.rest[:n]
	r.rest = r.rest[n:]
	return s
}

// fail is an error: nothing is left behind it, so that all that is read then fails, too.
func (r *Reader) fail() {
	if r != nil {
		*r = Reader{bad: true}
	}
}

// number is the number that bytes are, the highest one first; none, if it would do with fewer of them, or has more than a number has.
func number(s string) (uint64, bool) {
	if len(s) > maxSize || len(s) > 0 && s[0] == 0 {
		return 0, false
	}
	n := uint64(0)
	for i := range len(s) {
		n = n<<8 | uint64(s[i])
	}
	return n, true
}
