// Package varint is layer 1: see shared/doc/01-varint.md.
package varint

import "tallyroom/api"

// A byte holds seven bits of a number; its eighth one says that another byte follows.
const (
	group = 7
	more  = 1 << group
)

// Put: a number's bytes behind others.
func Put(b []byte, n uint64) []byte {
	// Exact room and a copy: the answer may not lie in what b has to spare.
	out := make([]byte, 0, len(b)+Size(n))
	out = append(out, b...)
	for n >= more {
		out = append(out, byte(n%more)|more)
		n >>= group
	}
	return append(out, byte(n))
}

// Get: a number, and how many bytes it has.
func Get(b []byte) (uint64, int, api.Errno) {
	var n uint64
	for i, c := range b {
		used := group * i
		left := 64 - used
		if left <= 0 {
			return 0, 0, api.ErrForm
		}
		// The sign that another byte follows is no part of the number: whether one does is told
		// by the next byte or the end, so the tenth one is asked for its own bits alone.
		bits := uint64(c % more)
		if bits>>left != 0 {
			return 0, 0, api.ErrForm
		}
		n |= bits << used
		if c >= more {
			continue
		}
		if c == 0 && i > 0 {
			return 0, 0, api.ErrForm
		}
		return n, i + 1, api.OK
	}
	return 0, 0, api.ErrShort
}

// Size: how many bytes.
func Size(n uint64) int {
	size := 1
	for n >= more {
		n >>= group
		size++
	}
	return size
}

// Zig: a number from 0 on.
func Zig(n int64) uint64 {
	if n < 0 {
		// -2n - 1 is 2(-n - 1) + 1, and -n - 1 is ^n, which fits where -n would not.
		return uint64(^n)<<1 | 1
	}
	return uint64(n) << 1
}

// Zag: back.
func Zag(n uint64) int64 {
	half := int64(n >> 1)
	if n&1 == 1 {
		return ^half
	}
	return half
}
