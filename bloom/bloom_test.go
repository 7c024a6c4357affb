package bloom

import (
	"bytes"
	"encoding/hex"
	"fmt"
	"hash/crc32"
	"slices"
	"strings"
	"testing"

	"tailrace/api"
)

// plainBits is a key's bits in a filter of n bytes, as the document tells them, by the library's CRC.
func plainBits(name string, n int) []int {
	a := crc32.Checksum([]byte(name), crc32.MakeTable(crc32.Castagnoli))
	b := (a>>15 | a<<17) + 0xa282ead8
	if b%2 == 0 {
		b++
	}
	var list []int
	for range 6 {
		list = append(list, int(uint64(a)*8*uint64(n)/(1<<32)))
		a += b
	}
	return list
}

// plain is a filter's Bytes, as the document tells them.
func plain(names []string) []byte {
	n := 8
	for 8*n < 10*len(names) {
		n++
	}
	b := make([]byte, n)
	for _, name := range names {
		for _, i := range plainBits(name, n) {
			b[i/8] |= 1 << (i % 8)
		}
	}
	return append([]byte{6}, b...)
}

// keys is so many unlike keys.
func keys(n int) []string {
	var list []string
	for i := range n {
		list = append(list, fmt.Sprint("k", i))
	}
	return list
}

// sample is keys of many forms, the empty one among them.
func sample() []string {
	return []string{"", "a", "b", "aa", "\x00", "\x00\x00", "\xff", "\xff\xff", "ä", "key", "123456789", strings.Repeat("k", 128), strings.Repeat("\x00", 70000)}
}

// made is the filter of keys that can be made.
func made(t *testing.T, names []string) Filter {
	t.Helper()
	had := slices.Clone(names)
	f, e := Make(names)
	if e != api.OK {
		t.Fatalf("Make of %d: %d", len(names), e)
	}
	if !slices.Equal(names, had) {
		t.Errorf("Make of %d turned what it was given", len(names))
	}
	return f
}

// parsed is the filter of bytes that are one.
func parsed(t *testing.T, b []byte) Filter {
	t.Helper()
	had := bytes.Clone(b)
	f, e := Parse(b)
	if e != api.OK {
		t.Fatalf("Parse of %d bytes: %d", len(b), e)
	}
	if !bytes.Equal(b, had) {
		t.Errorf("Parse of %d bytes turned them", len(b))
	}
	return f
}

// nothing tells whether a filter is the zero one.
func nothing(t *testing.T, what string, f Filter) {
	t.Helper()
	if f != (Filter{}) || !bytes.Equal(f.Bytes(), []byte{6}) {
		t.Errorf("%s: a filter of %d bytes", what, len(f.Bytes()))
	}
	for _, name := range sample() {
		if f.May(name) {
			t.Errorf("%s: May of %d bytes", what, len(name))
		}
	}
}

// P11.1, P11.2: the numbers that the document names.
func TestNumbers(t *testing.T) {
	if Steps != 6 || PerKey != 10 || Most != 1<<20 {
		t.Error(Steps, PerKey, Most)
	}
}

// P11.1, P11.2: filters, written out.
func TestWrittenOut(t *testing.T) {
	for _, c := range []struct {
		names []string
		want  string
	}{
		{nil, "060000000000000000"},
		{[]string{}, "060000000000000000"},
		{[]string{""}, "060108020004010002"},
		{[]string{"a"}, "061080000208000104"},
		{[]string{"a", "b"}, "06108000020800f107"},
		{[]string{"b", "a"}, "06108000020800f107"},
		{[]string{"a", "a"}, "061080000208000104"},
		{keys(6), "06d4881c56453b826c"},
		{keys(7), "06e4317a5053680d457a"},
		{keys(8), "066c636e832a894e412575"},
	} {
		if got := hex.EncodeToString(made(t, c.names).Bytes()); got != c.want {
			t.Errorf("Make of %v: %s, want %s", c.names, got, c.want)
		}
	}
}

// P11.1: in filters of many lengths a key's six bits, and no others, are asked.
func TestBitsOfAKey(t *testing.T) {
	for _, n := range []int{8, 9, 10, 11, 63, 64, 126, 1000, 65537, Most - 1, Most} {
		for _, name := range sample() {
			just := append([]byte{6}, make([]byte, n)...)
			all := append([]byte{6}, bytes.Repeat([]byte{255}, n)...)
			for _, i := range plainBits(name, n) {
				just[1+i/8] |= 1 << (i % 8)
			}
			if !parsed(t, just).May(name) || !parsed(t, all).May(name) {
				t.Errorf("%d bytes: May of %d bytes: false", n, len(name))
			}
			for _, i := range plainBits(name, n) {
				without := bytes.Clone(all)
				without[1+i/8] &^= 1 << (i % 8)
				if parsed(t, without).May(name) {
					t.Errorf("%d bytes without bit %d: May of %d bytes: true", n, i, len(name))
				}
			}
		}
	}
}

// P11.2: 10 bits for each key, in as few bytes as hold them, 8 at least: keys that are there twice count twice.
func TestSizes(t *testing.T) {
	for count, size := range map[int]int{
		0: 8, 1: 8, 5: 8, 6: 8, 7: 9, 8: 10, 9: 12, 10: 13, 11: 14, 12: 15, 13: 17, 100: 125, 1000: 1250, 1001: 1252,
		838856: 1048570, 838857: 1048572, 838859: 1048574, 838860: 1048575,
	} {
		list := slices.Repeat([]string{"a", "b", "a", ""}, 1+count/4)[:count]
		if got := len(made(t, list).Bytes()); got != 1+size {
			t.Errorf("of %d keys: %d bytes, want %d", count, got, 1+size)
		}
	}
}

// P11.2: more bits than Most bytes hold are refused.
func TestTooMany(t *testing.T) {
	for _, count := range []int{838861, 838862, 1 << 20, 1 << 21} {
		f, e := Make(make([]string, count))
		if e != api.ErrMany {
			t.Errorf("Make of %d: %d, want ErrMany", count, e)
		}
		nothing(t, fmt.Sprint("Make of ", count), f)
	}
}

// P11.2: just the bits of all keys are set, and May holds of those whose bits are all set.
func TestMakeAsTold(t *testing.T) {
	lists := [][]string{sample(), {"b", "b", "b", "b", "b", "b", "b"}}
	for n := range 40 {
		lists = append(lists, keys(n))
	}
	lists = append(lists, keys(1000), keys(20000))
	for _, list := range lists {
		f, want := made(t, list), plain(list)
		if !bytes.Equal(f.Bytes(), want) {
			t.Errorf("Make of %d: %x, want %x", len(list), f.Bytes(), want)
		}
		other := parsed(t, want)
		for i := range 500 {
			name := fmt.Sprint("other", i)
			may := true
			for _, bit := range plainBits(name, len(want)-1) {
				may = may && want[1+bit/8]>>(bit%8)%2 == 1
			}
			if f.May(name) != may || other.May(name) != may {
				t.Errorf("of %d: May(%s): %v %v, want %v", len(list), name, f.May(name), other.May(name), may)
			}
		}
	}
}

// P11.3: of each key that a filter is of May holds, and of few others.
func TestMayOfAll(t *testing.T) {
	for _, list := range [][]string{sample(), keys(1), keys(7), keys(100), keys(20000)} {
		f := made(t, list)
		g := parsed(t, f.Bytes())
		for _, name := range list {
			if !f.May(name) || !g.May(name) {
				t.Errorf("of %d: May of %q: %v %v", len(list), name[:min(len(name), 20)], f.May(name), g.May(name))
			}
		}
	}
	f, wrong := made(t, keys(1000)), 0
	for i := range 1000 {
		if f.May(fmt.Sprint("other", i)) {
			wrong++
		}
	}
	if wrong > 50 {
		t.Error("May of others:", wrong)
	}
}

// P11.3: a filter as great as there may be.
func TestGreatest(t *testing.T) {
	list := keys(838860)
	f := made(t, list)
	for _, name := range list {
		if !f.May(name) {
			t.Fatal("May", name)
		}
	}
	if g := parsed(t, f.Bytes()); g != f {
		t.Error("Parse")
	}
}

// P11.2: of no keys, and of the zero Filter, May holds of none.
func TestNone(t *testing.T) {
	nothing(t, "zero", Filter{})
	for _, f := range []Filter{made(t, nil), parsed(t, append([]byte{6}, make([]byte, Most)...))} {
		for _, name := range sample() {
			if f.May(name) {
				t.Errorf("of no keys: May of %d bytes", len(name))
			}
		}
	}
}

// P11.2: what Parse takes, it gives again: any bytes behind a 6, as many as there may be.
func TestParse(t *testing.T) {
	for _, n := range []int{8, 9, 11, 255, 256, 4096, Most - 1, Most} {
		b := []byte{6}
		for i := range n {
			b = append(b, byte(i*i+3*i))
		}
		if got := parsed(t, b).Bytes(); !bytes.Equal(got, b) {
			t.Errorf("Parse of %d bytes: %d others", len(b), len(got))
		}
	}
}

// P11.2: what Parse refuses.
func TestParseWrong(t *testing.T) {
	wrong := map[string][]byte{
		"nothing":         nil,
		"no bytes":        {},
		"too many":        append([]byte{6}, make([]byte, Most+1)...),
		"far too many":    append([]byte{6}, make([]byte, 2*Most)...),
		"too many, and 0": make([]byte, Most+2),
	}
	for n := range 8 {
		wrong[fmt.Sprint("behind 6 ", n)] = append([]byte{6}, bytes.Repeat([]byte{6}, n)...)
	}
	for c := range 256 {
		if c != 6 {
			wrong[fmt.Sprint("begins with ", c)] = append([]byte{byte(c)}, bytes.Repeat([]byte{6}, 8)...)
		}
	}
	for what, b := range wrong {
		f, e := Parse(b)
		if e != api.ErrForm {
			t.Errorf("Parse: %s: %d, want ErrForm", what, e)
		}
		nothing(t, what, f)
	}
}

// A filter keeps nothing of what was handed in, and gives nothing of its own away.
func TestOwnMemory(t *testing.T) {
	names := keys(3)
	f, want := made(t, names), plain(names)
	names[0] = "turned"
	b := f.Bytes()
	clear(b[:cap(b)])
	if !bytes.Equal(f.Bytes(), want) {
		t.Error("Make, Bytes")
	}
	b = bytes.Clone(want)
	g := parsed(t, b)
	clear(b)
	if !bytes.Equal(g.Bytes(), want) || !g.May("k0") {
		t.Error("Parse")
	}
}

// The room behind a list's end stays as it is.
func TestRoomBehind(t *testing.T) {
	names := append(keys(9), "behind")
	made(t, names[:9])
	b := append(plain(keys(3)), 1, 2, 3)
	parsed(t, b[:9])
	if names[9] != "behind" || !bytes.Equal(b[9:], []byte{1, 2, 3}) {
		t.Error(names[9], b[9:])
	}
}
