// Package num is layer 1: see shared/doc/01-num.md.
package num

import (
	"math"
	"math/bits"

	"tailrace/api"
)

const (
	more    = 128 // added to each byte of a Put behind which another one follows
	longest = 10  // bytes of the longest Put: nine hold 63 bits, so the tenth has one left
)

// The first byte of a Compact that has others behind it tells how many.
const (
	sign2 = 253
	sign4 = 254
	sign8 = 255
)

// Put lays a number, seven bits a byte, the lowest first: all bytes but the last have their highest bit set.
func Put(b []byte, n uint64) []byte {
	for range Size(n) - 1 {
		b = append(b, byte(n)|more)
		n >>= 7
	}
	return append(b, byte(n))
}

// Size is how many bytes Put lays.
func Size(n uint64) int {
	// 0 has no bits, yet takes a byte, as 1 does.
	return (bits.Len64(n|1) + 6) / 7
}

// Get is the number that bytes begin with, and how many bytes it has: in its one form.
func Get(b []byte) (uint64, int, api.Errno) {
	var n uint64
	for i := range min(len(b), longest) {
		c := b[i]
		// The rest of the tenth byte's bits, and a byte behind it, would fall out of 64 bits.
		if i == longest-1 && c > 1 {
			return 0, 0, api.ErrForm
		}
		n |= uint64(c%more) << (7 * i)
		if c >= more {
			continue
		}
		// A last byte of 0 adds nothing: fewer bytes would have done.
		if i > 0 && c == 0 {
			return 0, 0, api.ErrForm
		}
		return n, i + 1, api.OK
	}
	return 0, 0, api.ErrShort
}

// Compact lays a number as Bitcoin does: one byte, or a sign and two, four or eight, the lowest first.
func Compact(b []byte, n uint64) []byte {
	switch {
	case n < sign2:
		return append(b, byte(n))
	case n <= math.MaxUint16:
		return PutLittle(append(b, sign2), n, 2)
	case n <= math.MaxUint32:
		return PutLittle(append(b, sign4), n, 4)
	}
	return PutLittle(append(b, sign8), n, 8)
}

// Expand is the number that bytes begin with, as Bitcoin lays it: in its one form.
func Expand(b []byte) (uint64, int, api.Errno) {
	if len(b) == 0 {
		return 0, 0, api.ErrShort
	}
	switch b[0] {
	case sign2:
		return expandBehind(b[1:], 2, sign2)
	case sign4:
		return expandBehind(b[1:], 4, math.MaxUint16+1)
	case sign8:
		return expandBehind(b[1:], 8, math.MaxUint32+1)
	}
	return uint64(b[0]), 1, api.OK
}

// expandBehind reads what stands behind a sign; numbers below least have a shorter form.
func expandBehind(b []byte, size int, least uint64) (uint64, int, api.Errno) {
	if len(b) < size {
		return 0, 0, api.ErrShort
	}
	n := Little(b[:size])
	if n < least {
		return 0, 0, api.ErrForm
	}
	return n, 1 + size, api.OK
}

// Little is the number of the first eight bytes at most, the lowest first.
func Little(b []byte) uint64 {
	var n uint64
	for i := range min(len(b), 8) {
		n |= uint64(b[i]) << (8 * i)
	}
	return n
}

// Big is the number of the first eight bytes at most, the highest first.
func Big(b []byte) uint64 {
	var n uint64
	for i := range min(len(b), 8) {
		n = n<<8 | uint64(b[i])
	}
	return n
}

// PutLittle lays a number's lowest bytes, so many, the lowest first.
func PutLittle(b []byte, n uint64, size int) []byte {
	for i := range bounded(size) {
		b = append(b, byte(n>>(8*i)))
	}
	return b
}

// PutBig lays a number's lowest bytes, so many, the highest first.
func PutBig(b []byte, n uint64, size int) []byte {
	size = bounded(size)
	for i := range size {
		b = append(b, byte(n>>(8*(size-1-i))))
	}
	return b
}

// bounded is a size that a number of 64 bits can have.
func bounded(size int) int {
	return min(max(size, 0), 8)
}
