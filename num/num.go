// Package num is layer 1: numbers and texts as bytes. See shared/doc/01-num.md.
package num

import (
	"math"
	"math/bits"
)

const (
	// more is the bit of a byte behind which a number goes on.
	more = 0x80
	// longest is how many bytes 2^64 - 1 has, and highest what its last byte is: one above it wouldn't fit 64 bits.
	longest = 10
	highest = 1
)

// Uint: bytes, with a number behind them: seven bits a byte, the lowest first.
func Uint(b []byte, n uint64) []byte {
	for n >= more {
		b = append(b, byte(n)|more)
		n >>= 7
	}
	return append(b, byte(n))
}

// Size: how many bytes a number has.
func Size(n uint64) int {
	if n == 0 {
		return 1
	}
	return (bits.Len64(n) + 6) / 7
}

// Int: bytes, with a number with a sign behind them.
func Int(b []byte, n int) []byte {
	u := uint64(n) << 1
	if n < 0 {
		// -2n - 1 as all bits of 2n the other way round: so the least number does not go beyond 64 bits.
		u = ^u
	}
	return Uint(b, u)
}

// Text: bytes, with a text behind them: how long it is, and its bytes.
func Text(b []byte, s string) []byte {
	return append(Uint(b, uint64(len(s))), s...)
}

// Bool: bytes, with 1 or 0 behind them.
func Bool(b []byte, is bool) []byte {
	if is {
		return append(b, 1)
	}
	return append(b, 0)
}

// Reader reads bytes; once something is wrong it is so for good.
type Reader struct {
	rest string
	bad  bool
}

// From: a reader of bytes.
func From(s string) *Reader { return &Reader{rest: s} }

// Uint: the next number, up to one; 0: there is none.
func (r *Reader) Uint(most uint64) uint64 {
	if r.Bad() {
		return 0
	}
	n, size := first(r.rest)
	if size == 0 || n > most {
		r.fail()
		return 0
	}
	r.take(size)
	return n
}

// Int: the next number with a sign.
func (r *Reader) Int() int {
	u := r.Uint(math.MaxUint64)
	n := int(u >> 1)
	if u&1 == 1 {
		return ^n
	}
	return n
}

// Text: the next text, of so many bytes at most.
func (r *Reader) Text(most int) string {
	n := r.Uint(uint64(max(most, 0)))
	if r.Bad() {
		return ""
	}
	if n > uint64(len(r.rest)) {
		r.fail()
		return ""
	}
	return r.take(int(n))
}

// Bool: the next 1 or 0.
func (r *Reader) Bool() bool { return r.Uint(1) == 1 }

// Bad: whether something is wrong. End: whether all is read, and nothing is.
func (r *Reader) Bad() bool { return r == nil || r.bad }

func (r *Reader) End() bool { return !r.Bad() && r.rest == "" }

// take: the next bytes, which are read thereby; there are so many.
func (r *Reader) take(size int) string {
	s := r.rest[:size]
	r.rest = r.rest[size:]
	return s
}

// fail: something is wrong from now on, so the rest isn't kept.
func (r *Reader) fail() { r.rest, r.bad = "", true }

// first: the number that a text begins with, and how many bytes it has; 0 bytes: there is none.
func first(s string) (uint64, int) {
	var n uint64
	for i := 0; i < len(s) && i < longest; i++ {
		c := s[i]
		n |= uint64(c&^more) << (7 * i)
		if c < more {
			if ends(c, i) {
				return n, i + 1
			}
			return 0, 0
		}
	}
	return 0, 0
}

// ends: whether a number's last byte can be this one at this place: a 0 behind others would be a byte too many.
func ends(c byte, at int) bool {
	if at == longest-1 && c > highest {
		return false
	}
	return c != 0 || at == 0
}
