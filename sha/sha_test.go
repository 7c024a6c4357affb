package sha

import (
	"bytes"
	"crypto/sha256"
	"encoding/hex"
	"strings"
	"testing"

	"tailrace/api"
)

// sample is bytes with no pattern to speak of.
func sample(size int) []byte {
	b := make([]byte, size)
	x := uint32(size)
	for i := range b {
		x = x*1664525 + 1013904223
		b[i] = byte(x >> 24)
	}
	return b
}

// sampleHash is a digest with no pattern to speak of.
func sampleHash(seed int) api.Hash {
	return sha256.Sum256(sample(seed))
}

// twice is the digest of a digest, by the library.
func twice(b []byte) api.Hash {
	once := sha256.Sum256(b)
	return sha256.Sum256(once[:])
}

// P3.1: digests that are known, written out.
func TestSumKnown(t *testing.T) {
	for _, c := range []struct{ b, want string }{
		{"", "e3b0c44298fc1c149afbf4c8996fb92427ae41e4649b934ca495991b7852b855"},
		{"abc", "ba7816bf8f01cfea414140de5dae2223b00361a396177a9cb410ff61f20015ad"},
		{"abcdbcdecdefdefgefghfghighijhijkijkljklmklmnlmnomnopnopq", "248d6a61d20638b8e5c026930c3e6039a33ce45964ff2167f6ecedd419db06c1"},
		{"abcdefghbcdefghicdefghijdefghijkefghijklfghijklmghijklmnhijklmnoijklmnopjklmnopqklmnopqrlmnopqrsmnopqrstnopqrstu", "cf5b16a778af8380036ce59e7b0492370b249b11e8f07a51afac45037afee9d1"},
		{strings.Repeat("a", 1000000), "cdc76e5c9914fb9281a1c7e284d73e67f1809a48a497200e046d39ccc7112cd0"},
	} {
		if h := Sum([]byte(c.b)); hex.EncodeToString(h[:]) != c.want {
			t.Errorf("Sum of %d bytes: %x, want %s", len(c.b), h, c.want)
		}
	}
	if Sum(nil) != Sum([]byte{}) {
		t.Error("nil and empty have unlike digests")
	}
}

// P3.1: all lengths over several chunks, so that the end stands at each place of a chunk.
func TestSumAllLengths(t *testing.T) {
	for size := range 400 {
		b := sample(size)
		if h, want := Sum(b), api.Hash(sha256.Sum256(b)); h != want {
			t.Errorf("Sum of %d bytes: %x, want %x", size, h, want)
		}
		if h, want := Double(b), twice(b); h != want {
			t.Errorf("Double of %d bytes: %x, want %x", size, h, want)
		}
	}
}

// P3.1: each byte, and a length of more bits than two bytes, three bytes hold.
func TestSumBytesAndLongLengths(t *testing.T) {
	for c := range 256 {
		b := bytes.Repeat([]byte{byte(c)}, 70)
		if h, want := Sum(b), api.Hash(sha256.Sum256(b)); h != want {
			t.Errorf("Sum of %x: %x, want %x", b, h, want)
		}
	}
	for _, size := range []int{1<<13 - 1, 1 << 13, 1<<16 + 5, 1 << 18, 1<<21 + 55} {
		b := sample(size)
		if h, want := Sum(b), api.Hash(sha256.Sum256(b)); h != want {
			t.Errorf("Sum of %d bytes: %x, want %x", size, h, want)
		}
	}
}

// P3.1: the double digest of a known text, and of Bitcoin's first header.
func TestDoubleKnown(t *testing.T) {
	header, _ := hex.DecodeString("01000000" + strings.Repeat("00", 32) +
		"3ba3edfd7a7b12b27ac72c3e67768f617fc81bc3888a51323a9fb8aa4b1e5e4a" + "29ab5f49ffff001d1dac2b7c")
	for _, c := range []struct {
		b    []byte
		want string
	}{
		{nil, "5df6e0e2761359d30a8275058e299fcc0381534545f55cf43e41983f5d4c9456"},
		{[]byte("hello"), "9595c9df90075148eb06860365df33584b75bff782a510c6cd4883a419833d50"},
		{header, "6fe28c0ab6f1b372c1a6a246ae63f74f931e8365e15a089c68d6190000000000"},
	} {
		if h := Double(c.b); hex.EncodeToString(h[:]) != c.want {
			t.Errorf("Double(%x): %x, want %s", c.b, h, c.want)
		}
	}
}

// P3.1: two digests, in their order.
func TestPair(t *testing.T) {
	for i := range 20 {
		a, b := sampleHash(i), sampleHash(i+100)
		keptA, keptB := a, b
		if h, want := Pair(a, b), twice([]byte(string(a[:])+string(b[:]))); h != want {
			t.Errorf("Pair(%x, %x): %x, want %x", a, b, h, want)
		}
		if Pair(a, b) == Pair(b, a) {
			t.Errorf("Pair(%x, %x) has no order", a, b)
		}
		if h, want := Pair(a, a), twice([]byte(string(a[:])+string(a[:]))); h != want {
			t.Errorf("Pair(%x, %x): %x, want %x", a, a, h, want)
		}
		if a != keptA || b != keptB {
			t.Error("Pair turned a digest")
		}
	}
}

// P3.1: what is handed in stays, the room behind its end included, and asking again answers the same.
func TestSumTurnsNothing(t *testing.T) {
	for _, size := range []int{0, 1, 55, 56, 63, 64, 65, 130} {
		whole := sample(size + 200)
		kept := bytes.Clone(whole)
		b := whole[:size]
		first, second := Sum(b), Double(b)
		if Sum(b) != first || Double(b) != second {
			t.Errorf("%d bytes: another answer the second time", size)
		}
		if !bytes.Equal(whole, kept) {
			t.Errorf("%d bytes were turned", size)
		}
	}
}

// P3.2: the last byte first, the higher digit of each first.
func TestTextKnown(t *testing.T) {
	var up api.Hash
	for i := range up {
		up[i] = byte(8*i + 5)
	}
	header := api.Hash{0x6f, 0xe2, 0x8c, 0x0a, 0xb6, 0xf1, 0xb3, 0x72, 0xc1, 0xa6, 0xa2, 0x46, 0xae, 0x63, 0xf7, 0x4f,
		0x93, 0x1e, 0x83, 0x65, 0xe1, 0x5a, 0x08, 0x9c, 0x68, 0xd6, 0x19}
	for _, c := range []struct {
		h    api.Hash
		want string
	}{
		{api.Hash{}, strings.Repeat("0", 64)},
		{api.Hash{31: 1}, "01" + strings.Repeat("0", 62)},
		{api.Hash{0: 0xef}, strings.Repeat("0", 62) + "ef"},
		{up, "fdf5ede5ddd5cdc5bdb5ada59d958d857d756d655d554d453d352d251d150d05"},
		{header, "000000000019d6689c085ae165831e934ff763ae46a2a6c172b3f1b60a8ce26f"},
	} {
		if s := Text(c.h); s != c.want {
			t.Errorf("Text(%x): %s, want %s", c.h, s, c.want)
		}
		if h, e := Parse(c.want); h != c.h || e != api.OK {
			t.Errorf("Parse(%s): %x %d, want %x", c.want, h, e, c.h)
		}
	}
}

// P3.2: each byte at each place is shown by its two digits, and read again.
func TestTextEachByte(t *testing.T) {
	for at := range 32 {
		for c := range 256 {
			var h api.Hash
			h[at] = byte(c)
			back := 2 * (31 - at)
			want := strings.Repeat("0", back) + hex.EncodeToString([]byte{byte(c)}) + strings.Repeat("0", 62-back)
			if s := Text(h); s != want {
				t.Errorf("Text(%x): %s, want %s", h, s, want)
			}
			if got, e := Parse(want); got != h || e != api.OK {
				t.Errorf("Parse(%s): %x %d, want %x", want, got, e, h)
			}
		}
	}
}

// P3.2: each byte that is no digit, at each place.
func TestParseOtherSigns(t *testing.T) {
	right := Text(sampleHash(7))
	for at := range right {
		for c := range 256 {
			b := []byte(right)
			b[at] = byte(c)
			h, e := Parse(string(b))
			if strings.IndexByte("0123456789abcdef", byte(c)) < 0 {
				if e != api.ErrForm || h != (api.Hash{}) {
					t.Errorf("Parse(%q): %x %d, want ErrForm", b, h, e)
				}
			} else if e != api.OK || Text(h) != string(b) {
				t.Errorf("Parse(%q): %x %d", b, h, e)
			}
		}
	}
}

// P3.2: each length but 64, and texts of 64 signs that aren't 64 bytes.
func TestParseOtherLengths(t *testing.T) {
	for size := range 200 {
		want := api.ErrForm
		if size == 64 {
			want = api.OK
		}
		if h, e := Parse(strings.Repeat("1", size)); e != want || e != api.OK && h != (api.Hash{}) {
			t.Errorf("Parse of %d signs: %x %d, want %d", size, h, e, want)
		}
	}
	right := strings.Repeat("ab", 32)
	for _, s := range []string{" " + right, right + " ", right + "\n", "0x" + right, "0x" + right[2:], strings.ToUpper(right), strings.Repeat("é", 64), strings.Repeat("é", 32)} {
		if h, e := Parse(s); e != api.ErrForm || h != (api.Hash{}) {
			t.Errorf("Parse(%q): %x %d, want ErrForm", s, h, e)
		}
	}
}
