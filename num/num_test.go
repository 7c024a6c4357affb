package num

import (
	"bytes"
	"math"
	"math/bits"
	"slices"
	"strings"
	"testing"

	"tailrace/api"
)

// edges are the numbers at which a form gets longer, and their neighbours.
func edges() []uint64 {
	list := []uint64{0, 300, 252, 253, 254, 255, math.MaxUint64}
	for i := range 64 {
		at := uint64(1) << i
		list = append(list, at-1, at, at+1)
	}
	slices.Sort(list)
	return slices.Compact(list)
}

// roomy is b with room behind its end, so that laying may stay in its memory.
func roomy(b string) []byte {
	return append(make([]byte, 0, len(b)+32), b...)
}

// checkLaid tells whether laying puts want behind whatever there is, which stays.
func checkLaid(t *testing.T, what string, want string, lay func(b []byte) []byte) {
	t.Helper()
	for _, b := range [][]byte{nil, {}, []byte("ab"), slices.Clip([]byte("ab")), roomy("ab"), roomy("")} {
		had := string(b)
		got := lay(b)
		if string(got) != had+want {
			t.Errorf("%s behind %x: %x, want %x", what, had, got, had+want)
		}
		if string(b) != had {
			t.Errorf("%s turned %x into %x", what, had, b)
		}
	}
}

type reader func(b []byte) (uint64, int, api.Errno)

func checkRead(t *testing.T, what string, read reader, b string, n uint64, size int, e api.Errno) {
	t.Helper()
	in := []byte(b)
	if gotN, gotSize, gotE := read(in); gotN != n || gotSize != size || gotE != e {
		t.Errorf("%s(%x): %d %d %d, want %d %d %d", what, b, gotN, gotSize, gotE, n, size, e)
	}
	if string(in) != b {
		t.Errorf("%s turned %x into %x", what, b, in)
	}
}

// checkCut tells whether each beginning of a form is too short, and the form with anything behind it is read.
func checkCut(t *testing.T, what string, read reader, form string, n uint64) {
	t.Helper()
	for i := range len(form) {
		checkRead(t, what, read, form[:i], 0, 0, api.ErrShort)
	}
	for _, behind := range []string{"", "\x00", "\x80", "\xff\xff\xff\xff\xff\xff\xff\xff\xff\xff"} {
		checkRead(t, what, read, form+behind, n, len(form), api.OK)
	}
}

// P1.1: the forms of some numbers, written out.
func TestPutForms(t *testing.T) {
	for _, c := range []struct {
		n    uint64
		want string
	}{
		{0, "\x00"},
		{1, "\x01"},
		{127, "\x7f"},
		{128, "\x80\x01"},
		{300, "\xac\x02"},
		{1<<14 - 1, "\xff\x7f"},
		{1 << 14, "\x80\x80\x01"},
		{1<<21 - 1, "\xff\xff\x7f"},
		{1<<28 - 1, "\xff\xff\xff\x7f"},
		{1<<35 - 1, "\xff\xff\xff\xff\x7f"},
		{1<<42 - 1, "\xff\xff\xff\xff\xff\x7f"},
		{1<<49 - 1, "\xff\xff\xff\xff\xff\xff\x7f"},
		{1<<56 - 1, "\xff\xff\xff\xff\xff\xff\xff\x7f"},
		{1<<63 - 1, "\xff\xff\xff\xff\xff\xff\xff\xff\x7f"},
		{1 << 63, "\x80\x80\x80\x80\x80\x80\x80\x80\x80\x01"},
		{math.MaxUint64, "\xff\xff\xff\xff\xff\xff\xff\xff\xff\x01"},
	} {
		checkLaid(t, "Put", c.want, func(b []byte) []byte { return Put(b, c.n) })
		checkCut(t, "Get", Get, c.want, c.n)
		if Size(c.n) != len(c.want) {
			t.Errorf("Size(%d): %d, want %d", c.n, Size(c.n), len(c.want))
		}
	}
}

// P1.1: what is laid has seven bits a byte, no byte too many, and is read again.
func TestPutAtEdges(t *testing.T) {
	for _, n := range edges() {
		form := string(Put(nil, n))
		if want := max(1, (bits.Len64(n)+6)/7); len(form) != want || Size(n) != want {
			t.Errorf("Put(%d): %x, Size %d, want %d bytes", n, form, Size(n), want)
		}
		for i := range len(form) {
			want := byte(n>>(7*i)) & 127
			if i < len(form)-1 {
				want += 128
			}
			if form[i] != want {
				t.Errorf("Put(%d): %x at %d, want %x", n, form[i], i, want)
			}
		}
		checkCut(t, "Get", Get, form, n)
	}
}

// P1.1: a tenth byte above 1, whatever is behind it.
func TestGetTenthByte(t *testing.T) {
	for _, first := range []string{"\xff", "\x80", "\x81"} {
		nine := strings.Repeat(first, 9)
		checkRead(t, "Get", Get, nine, 0, 0, api.ErrShort)
		for c := 2; c < 256; c++ {
			for _, behind := range []string{"", "\x00", "\x01", "\xff"} {
				checkRead(t, "Get", Get, nine+string([]byte{byte(c)})+behind, 0, 0, api.ErrForm)
			}
		}
		checkRead(t, "Get", Get, nine+"\x00", 0, 0, api.ErrForm)
	}
	checkRead(t, "Get", Get, strings.Repeat("\x80", 9)+"\x01\x00", 1<<63, 10, api.OK)
	checkRead(t, "Get", Get, strings.Repeat("\x80", 1000), 0, 0, api.ErrForm)
}

// P1.1: a last byte of 0 is right alone, and wrong behind others.
func TestGetLastByteNought(t *testing.T) {
	checkRead(t, "Get", Get, "\x00", 0, 1, api.OK)
	for i := 1; i < 10; i++ {
		for _, first := range []string{"\x80", "\xff"} {
			b := strings.Repeat(first, i)
			checkRead(t, "Get", Get, b, 0, 0, api.ErrShort)
			checkRead(t, "Get", Get, b+"\x00", 0, 0, api.ErrForm)
			checkRead(t, "Get", Get, b+"\x00\x01", 0, 0, api.ErrForm)
		}
	}
}

// P1.1: whatever two bytes are, Get takes just what Put lays.
func TestGetTwoBytes(t *testing.T) {
	for x := range 1 << 16 {
		b := []byte{byte(x >> 8), byte(x)}
		n, size, e := Get(b)
		if e == api.OK && !bytes.Equal(Put(nil, n), b[:size]) {
			t.Errorf("Get(%x): %d %d", b, n, size)
		}
		want := api.OK
		switch {
		case b[0] < 128:
		case b[1] == 0:
			want = api.ErrForm
		case b[1] >= 128:
			want = api.ErrShort
		}
		if e != want || e != api.OK && (n != 0 || size != 0) {
			t.Errorf("Get(%x): %d %d %d, want %d", b, n, size, e, want)
		}
	}
}

// P1.2: the forms of some numbers, written out.
func TestCompactForms(t *testing.T) {
	for _, c := range []struct {
		n    uint64
		want string
	}{
		{0, "\x00"},
		{1, "\x01"},
		{252, "\xfc"},
		{253, "\xfd\xfd\x00"},
		{254, "\xfd\xfe\x00"},
		{255, "\xfd\xff\x00"},
		{256, "\xfd\x00\x01"},
		{300, "\xfd\x2c\x01"},
		{1<<16 - 1, "\xfd\xff\xff"},
		{1 << 16, "\xfe\x00\x00\x01\x00"},
		{1<<32 - 1, "\xfe\xff\xff\xff\xff"},
		{1 << 32, "\xff\x00\x00\x00\x00\x01\x00\x00\x00"},
		{0x0102030405060708, "\xff\x08\x07\x06\x05\x04\x03\x02\x01"},
		{math.MaxUint64, "\xff\xff\xff\xff\xff\xff\xff\xff\xff"},
	} {
		checkLaid(t, "Compact", c.want, func(b []byte) []byte { return Compact(b, c.n) })
		checkCut(t, "Expand", Expand, c.want, c.n)
	}
}

// P1.2: what is laid is read again, and is the shortest form.
func TestCompactAtEdges(t *testing.T) {
	for _, n := range edges() {
		want := 9
		switch {
		case n < 253:
			want = 1
		case n < 1<<16:
			want = 3
		case n < 1<<32:
			want = 5
		}
		form := string(Compact(nil, n))
		if len(form) != want {
			t.Errorf("Compact(%d): %x, want %d bytes", n, form, want)
		}
		checkCut(t, "Expand", Expand, form, n)
	}
}

// P1.2: forms for which fewer bytes would have done; cut, they are too short first of all.
func TestExpandTooLong(t *testing.T) {
	for _, b := range []string{
		"\xfd\x00\x00",
		"\xfd\x01\x00",
		"\xfd\xfc\x00",
		"\xfe\x00\x00\x00\x00",
		"\xfe\xfd\x00\x00\x00",
		"\xfe\xff\xff\x00\x00",
		"\xff\x00\x00\x00\x00\x00\x00\x00\x00",
		"\xff\x00\x00\x01\x00\x00\x00\x00\x00",
		"\xff\xff\xff\xff\xff\x00\x00\x00\x00",
	} {
		for i := range len(b) {
			checkRead(t, "Expand", Expand, b[:i], 0, 0, api.ErrShort)
		}
		checkRead(t, "Expand", Expand, b, 0, 0, api.ErrForm)
		checkRead(t, "Expand", Expand, b+"\x01", 0, 0, api.ErrForm)
	}
}

// P1.3: both orders, of no bytes, of few, of eight, and of more, of which the first eight count.
func TestLittleBig(t *testing.T) {
	for _, c := range []struct {
		b           string
		little, big uint64
	}{
		{"", 0, 0},
		{"\x07", 7, 7},
		{"\x01\x02", 0x0201, 0x0102},
		{"\x00\x01\x2c", 0x2c0100, 0x00012c},
		{"\x01\x02\x03\x04\x05\x06\x07", 0x07060504030201, 0x01020304050607},
		{"\x01\x02\x03\x04\x05\x06\x07\x08", 0x0807060504030201, 0x0102030405060708},
		{"\x01\x02\x03\x04\x05\x06\x07\x08\x09", 0x0807060504030201, 0x0102030405060708},
		{"\xff\xff\xff\xff\xff\xff\xff\xff\xff\xff", math.MaxUint64, math.MaxUint64},
		{"\x00\x00\x00\x00\x00\x00\x00\x80\xff", 1 << 63, 0x80},
	} {
		b := []byte(c.b)
		if n := Little(b); n != c.little {
			t.Errorf("Little(%x): %x, want %x", c.b, n, c.little)
		}
		if n := Big(b); n != c.big {
			t.Errorf("Big(%x): %x, want %x", c.b, n, c.big)
		}
		if string(b) != c.b {
			t.Errorf("%x was turned into %x", c.b, b)
		}
	}
	if Little(nil) != 0 || Big(nil) != 0 {
		t.Error("no bytes have a number")
	}
}

// P1.3: all sizes, and those below 0 and above 8.
func TestPutLittlePutBig(t *testing.T) {
	const little, big = "\x08\x07\x06\x05\x04\x03\x02\x01", "\x01\x02\x03\x04\x05\x06\x07\x08"
	sizes := []int{math.MinInt, -9, -1, 0, 1, 2, 3, 4, 5, 6, 7, 8, 9, 16, 64, math.MaxInt}
	for _, size := range sizes {
		k := size
		if k < 0 {
			k = 0
		} else if k > 8 {
			k = 8
		}
		checkLaid(t, "PutLittle", little[:k], func(b []byte) []byte { return PutLittle(b, 0x0102030405060708, size) })
		checkLaid(t, "PutBig", big[8-k:], func(b []byte) []byte { return PutBig(b, 0x0102030405060708, size) })
	}
	checkLaid(t, "PutBig", "\x00\x01\x2c", func(b []byte) []byte { return PutBig(b, 300, 3) })
	checkLaid(t, "PutLittle", "\x2c\x01\x00", func(b []byte) []byte { return PutLittle(b, 300, 3) })
}

// P1.3: what is laid in so many bytes is the number's lowest bits.
func TestPutLittlePutBigAtEdges(t *testing.T) {
	for _, n := range edges() {
		for size := range 9 {
			want := n
			if size < 8 {
				want = n % (1 << (8 * size))
			}
			if got := Little(PutLittle(nil, n, size)); got != want {
				t.Errorf("Little of %d in %d bytes: %d, want %d", n, size, got, want)
			}
			if got := Big(PutBig(nil, n, size)); got != want {
				t.Errorf("Big of %d in %d bytes: %d, want %d", n, size, got, want)
			}
		}
	}
}

func FuzzRead(f *testing.F) {
	f.Add([]byte("\xac\x02"))
	f.Add([]byte("\xfd\x2c\x01"))
	f.Fuzz(func(t *testing.T, b []byte) {
		if n, size, e := Get(b); e == api.OK && !bytes.Equal(Put(nil, n), b[:size]) {
			t.Errorf("Get(%x): %d %d", b, n, size)
		}
		if n, size, e := Expand(b); e == api.OK && !bytes.Equal(Compact(nil, n), b[:size]) {
			t.Errorf("Expand(%x): %d %d", b, n, size)
		}
	})
}
