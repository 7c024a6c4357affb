package crc

import (
	"bytes"
	"hash/crc32"
	"testing"
)

// bitwise is the check as the document tells it, one bit after the other.
func bitwise(b []byte) uint32 {
	register := uint32(0xffffffff)
	for _, c := range b {
		register ^= uint32(c)
		for range 8 {
			out := register & 1
			register >>= 1
			if out == 1 {
				register ^= 0x82f63b78
			}
		}
	}
	return ^register
}

// sample is bytes with no pattern to speak of.
func sample(size int) []byte {
	b := make([]byte, size)
	x := uint32(1)
	for i := range b {
		x = x*1664525 + 1013904223
		b[i] = byte(x >> 24)
	}
	return b
}

// flipped is b with the bits of pattern turned from a place on, the lowest bit of a byte first.
func flipped(b []byte, at int, pattern uint32) []byte {
	b = bytes.Clone(b)
	for i := range 32 {
		if pattern>>i&1 == 1 {
			b[(at+i)/8] ^= 1 << ((at + i) % 8)
		}
	}
	return b
}

// P2.1: checks that are known, written out.
func TestSumKnown(t *testing.T) {
	up := make([]byte, 32)
	for i := range up {
		up[i] = byte(i)
	}
	for _, c := range []struct {
		b    []byte
		want uint32
	}{
		{nil, 0},
		{[]byte{}, 0},
		{[]byte("123456789"), 0xe3069283},
		{[]byte("a"), 0xc1d04330},
		{make([]byte, 32), 0x8a9136aa},
		{bytes.Repeat([]byte{0xff}, 32), 0x62a8ab43},
		{up, 0x46dd794e},
	} {
		if got := Sum(c.b); got != c.want {
			t.Errorf("Sum(%x): %08x, want %08x", c.b, got, c.want)
		}
	}
}

// P2.1: each byte, and bytes of many lengths, against the check bit by bit.
func TestSumBitByBit(t *testing.T) {
	for c := range 256 {
		b := []byte{byte(c)}
		if Sum(b) != bitwise(b) {
			t.Errorf("Sum(%x): %08x, want %08x", b, Sum(b), bitwise(b))
		}
	}
	table := crc32.MakeTable(crc32.Castagnoli)
	b := sample(600)
	for size := range len(b) {
		got := Sum(b[:size])
		if want := bitwise(b[:size]); got != want || got != crc32.Checksum(b[:size], table) {
			t.Errorf("Sum of %d bytes: %08x, want %08x", size, got, want)
		}
	}
	if !bytes.Equal(b, sample(600)) {
		t.Error("Sum turned its bytes")
	}
}

// P2.1: bytes that come in pieces, empty ones too.
func TestMore(t *testing.T) {
	b := sample(100)
	whole := Sum(b)
	for i := range len(b) + 1 {
		if got := More(Sum(b[:i]), b[i:]); got != whole {
			t.Errorf("cut at %d: %08x, want %08x", i, got, whole)
		}
		for j := i; j <= len(b); j += 7 {
			if got := More(More(Sum(b[:i]), b[i:j]), b[j:]); got != whole {
				t.Errorf("cut at %d and %d: %08x, want %08x", i, j, got, whole)
			}
		}
	}
	var sum uint32
	for i := range b {
		sum = More(sum, b[i:i+1])
		if sum != bitwise(b[:i+1]) {
			t.Errorf("byte by byte up to %d: %08x", i, sum)
		}
	}
	if More(whole, nil) != whole || More(whole, []byte{}) != whole {
		t.Error("no bytes turn a sum")
	}
	if !bytes.Equal(b, sample(100)) {
		t.Error("More turned its bytes")
	}
}

// P2.2: masks that are known, written out: of no bits, of the lowest, of those on both sides of the cut, of all.
func TestMaskKnown(t *testing.T) {
	for _, c := range []struct{ sum, want uint32 }{
		{0, 0xa282ead8},
		{1, 0xa284ead8},
		{1 << 14, 0x2282ead8},
		{1 << 15, 0xa282ead9},
		{1 << 31, 0xa283ead8},
		{0xffffffff, 0xa282ead7},
		{0xe3069283, 0xc78ab0e5},
	} {
		if got := Mask(c.sum); got != c.want {
			t.Errorf("Mask(%08x): %08x, want %08x", c.sum, got, c.want)
		}
		if got := Unmask(c.want); got != c.sum {
			t.Errorf("Unmask(%08x): %08x, want %08x", c.want, got, c.sum)
		}
	}
}

// P2.2: masked and back, and the other way round.
func TestMaskAndBack(t *testing.T) {
	check := func(x uint32) {
		want := uint32((uint64(x>>15) + uint64(x%(1<<15))<<17 + 0xa282ead8) % (1 << 32))
		if Mask(x) != want || Unmask(Mask(x)) != x || Mask(Unmask(x)) != x {
			t.Errorf("%08x: Mask %08x, Unmask %08x", x, Mask(x), Unmask(x))
		}
	}
	for i := range 32 {
		check(1<<i - 1)
		check(1 << i)
		check(^uint32(1 << i))
	}
	x := uint32(1)
	for range 100000 {
		x = x*1664525 + 1013904223
		check(x)
	}
}

// P2.3: bytes that differ in a pattern of up to 32 bits, at each place.
func TestSumTellsBursts(t *testing.T) {
	b := sample(24)
	whole := Sum(b)
	for at := range 8*len(b) - 31 {
		check := func(pattern uint32) {
			if got := Sum(flipped(b, at, pattern)); got == whole {
				t.Errorf("%08x turned at %d is not told", pattern, at)
			}
		}
		for i := range 32 {
			for j := range i + 1 {
				check(1<<i | 1<<j)
				check(1<<i | (1<<i - 1<<j))
			}
		}
		x := uint32(at)
		for range 500 {
			x = x*1664525 + 1013904223
			check(x | 1)
		}
		check(0x82f63b78)
		check(0x05ec76f1)
	}
}

// P2.3, of all patterns: how a pattern turns a sum is what its bits turn, laid over each other, so it is enough that no bit of 32 side by side turns what some of the others do.
func TestSumTellsEveryBurst(t *testing.T) {
	b := sample(40)
	whole := Sum(b)
	for at := range 8*len(b) - 31 {
		var top [32]uint32 // what is left of a bit's turn, by its highest bit
		for i := range 32 {
			turn := Sum(flipped(b, at, 1<<i)) ^ whole
			for k := 31; k >= 0; k-- {
				if turn>>k&1 == 0 {
					continue
				}
				if top[k] == 0 {
					top[k] = turn
					break
				}
				turn ^= top[k]
			}
			if turn == 0 {
				t.Fatalf("at %d: bit %d turns what others do", at, i)
			}
		}
	}
}

// P2.3 leans on this: turns of two patterns lie over each other.
func TestSumTurnsLieOverEachOther(t *testing.T) {
	b := sample(16)
	whole := Sum(b)
	turn := func(at int, pattern uint32) uint32 { return Sum(flipped(b, at, pattern)) ^ whole }
	x := uint32(7)
	for at := range 8*len(b) - 31 {
		p := x*1664525 + 1013904223
		q := p*1664525 + 1013904223
		x = q
		if turn(at, p)^turn(at, q) != turn(at, p^q) {
			t.Errorf("at %d: %08x and %08x", at, p, q)
		}
	}
}
