package record

import (
	"bytes"
	"hash/crc32"
	"math/bits"
	"slices"
	"testing"

	"tailrace/api"
)

// masked is a check as the document tells it, by the library's CRC.
func masked(b []byte) uint32 {
	sum := crc32.Checksum(b, crc32.MakeTable(crc32.Castagnoli))
	return (sum>>15 | sum<<17) + 0xa282ead8
}

// little is a number's four bytes, the lowest first.
func little(n uint32) []byte {
	return []byte{byte(n), byte(n >> 8), byte(n >> 16), byte(n >> 24)}
}

// plain is a record as the document tells it, of whatever length is told.
func plain(length uint32, data []byte) []byte {
	return slices.Concat(little(length), little(masked(little(length))), little(masked(data)), data)
}

// of is the record of data.
func of(data string) []byte {
	return plain(uint32(len(data)), []byte(data))
}

// sample is bytes with no pattern to speak of.
func sample(size int) []byte {
	b := make([]byte, size)
	x := uint32(7)
	for i := range b {
		x = x*1664525 + 1013904223
		b[i] = byte(x >> 24)
	}
	return b
}

func checkNext(t *testing.T, what string, b []byte, data []byte, n int, e api.Errno) {
	t.Helper()
	had := bytes.Clone(b)
	got, gotN, gotE := Next(b)
	if !bytes.Equal(got, data) || gotN != n || gotE != e {
		t.Errorf("Next %s: %d bytes, %d, %d, want %d bytes, %d, %d", what, len(got), gotN, gotE, len(data), n, e)
	}
	if !bytes.Equal(b, had) {
		t.Errorf("Next %s turned what it was given", what)
	}
}

func checkAll(t *testing.T, what string, b []byte, want []string, n int, e api.Errno) {
	t.Helper()
	had := bytes.Clone(b)
	got, gotN, gotE := All(b)
	var texts []string
	for _, data := range got {
		texts = append(texts, string(data))
	}
	if !slices.Equal(texts, want) || gotN != n || gotE != e {
		t.Errorf("All %s: %q, %d, %d, want %q, %d, %d", what, texts, gotN, gotE, want, n, e)
	}
	if !bytes.Equal(b, had) {
		t.Errorf("All %s turned what it was given", what)
	}
}

// P5.1: the record of nothing, and of a text, written out.
func TestPutWrittenOut(t *testing.T) {
	for _, c := range []struct {
		data string
		want []byte
	}{
		{"", []byte{0, 0, 0, 0, 0xa6, 0x7b, 0x11, 0x3a, 0xd8, 0xea, 0x82, 0xa2}},
		{"123456789", append([]byte{9, 0, 0, 0, 0xa5, 0xb1, 0xb5, 0xa7, 0xe5, 0xb0, 0x8a, 0xc7}, "123456789"...)},
	} {
		got, e := Put(nil, []byte(c.data))
		if e != api.OK || !bytes.Equal(got, c.want) {
			t.Errorf("Put(%q): %x %d, want %x", c.data, got, e, c.want)
		}
	}
	if Head != 12 || Most != 1<<20 {
		t.Error("Head, Most:", Head, Most)
	}
}

// P5.1: a record is laid behind whatever there is, which stays.
func TestPutBehind(t *testing.T) {
	for _, size := range []int{0, 1, 2, 5, 11, 12, 13, 255, 256, 257, 65535, 65536, 70000} {
		data := sample(size)
		for _, b := range [][]byte{nil, {}, []byte("ab"), slices.Clip([]byte("ab")), append(make([]byte, 0, 5), "ab"...), append(make([]byte, 0, 100000), "ab"...)} {
			had := string(b)
			got, e := Put(b, data)
			if want := had + string(plain(uint32(size), data)); e != api.OK || string(got) != want {
				t.Errorf("Put of %d bytes behind %q: %d", size, had, e)
			}
			if string(b) != had || !bytes.Equal(data, sample(size)) {
				t.Errorf("Put of %d bytes behind %q turned what it was given", size, had)
			}
		}
	}
}

// P5.1: Most bytes are a record; one more is refused, beside b as it was.
func TestPutMost(t *testing.T) {
	for _, size := range []int{Most - 1, Most} {
		data := sample(size)
		got, e := Put([]byte("ab"), data)
		if e != api.OK || string(got) != "ab"+string(plain(uint32(size), data)) {
			t.Errorf("Put of %d bytes: %d", size, e)
		}
		checkNext(t, "of the most", got[2:], data, Head+size, api.OK)
	}
	for _, b := range [][]byte{nil, {}, []byte("ab"), append(make([]byte, 0, 2*Most), "ab"...)} {
		for _, size := range []int{Most + 1, 2 * Most} {
			had := string(b)
			room := bytes.Clone(b[:cap(b)])
			got, e := Put(b, make([]byte, size))
			if e != api.ErrLong || string(got) != had {
				t.Errorf("Put of %d bytes behind %q: %q %d", size, had, got, e)
			}
			if !bytes.Equal(b[:cap(b)], room) {
				t.Errorf("Put of %d bytes behind %q turned something", size, had)
			}
		}
	}
}

// P5.1: data that stands in the room behind b is laid as it was.
func TestPutOfRoomBehind(t *testing.T) {
	for at := range 40 {
		b := sample(100)
		want := plain(30, bytes.Clone(b[at:at+30]))
		if got, e := Put(b[:0], b[at:at+30]); e != api.OK || !bytes.Equal(got, want) {
			t.Errorf("Put of the room from %d on: %x %d, want %x", at, got, e, want)
		}
	}
}

// P5.2: a record is read again, whatever stands behind it, as new memory.
func TestNextReadsPut(t *testing.T) {
	for _, size := range []int{0, 1, 5, 12, 300, 65536} {
		data := sample(size)
		b := plain(uint32(size), data)
		for _, behind := range []string{"", "\x00", "abcdefghijklmnop"} {
			all := append(bytes.Clone(b), behind...)
			checkNext(t, "of a whole record", all, data, Head+size, api.OK)
			got, _, _ := Next(all)
			for i := range all {
				all[i] ^= 255
			}
			if !bytes.Equal(got, data) {
				t.Error("Next shares memory with what it was given")
			}
		}
	}
}

// P5.2, P5.4: cut short at its end a record is ErrShort at each length, and no length is above the most.
func TestNextCut(t *testing.T) {
	for _, size := range []int{0, 1, 5, 40, 300} {
		b := plain(uint32(size), sample(size))
		for n := range b {
			checkNext(t, "of a record that is cut", b[:n], nil, 0, api.ErrShort)
		}
	}
	checkNext(t, "of nothing", nil, nil, 0, api.ErrShort)
	checkNext(t, "of a head whose bytes aren't there", plain(Most, nil), nil, 0, api.ErrShort)
	b := plain(Most, make([]byte, Most))
	checkNext(t, "of the most, cut", b[:len(b)-1], nil, 0, api.ErrShort)
}

// P5.2: a length above the most is ErrBad, though its check is right, and though all its bytes follow.
func TestNextTooLong(t *testing.T) {
	for _, length := range []uint32{Most + 1, 1 << 24, 1 << 31, 1<<32 - 1} {
		checkNext(t, "of a length that is too great", plain(length, nil), nil, 0, api.ErrBad)
		checkNext(t, "of a length that is too great, cut", plain(length, nil)[:11], nil, 0, api.ErrShort)
	}
	checkNext(t, "of too many bytes", plain(Most+1, make([]byte, Most+1)), nil, 0, api.ErrBad)
}

// P5.2: what comes first is told: few bytes, the first check, what follows, the second check.
func TestNextOrder(t *testing.T) {
	b := of("hello")
	firstBad := bytes.Clone(b)
	firstBad[5] ^= 1
	secondBad := bytes.Clone(b)
	secondBad[9] ^= 1
	checkNext(t, "of a bad first check, too few bytes", firstBad[:11], nil, 0, api.ErrShort)
	for n := 12; n <= len(b); n++ {
		checkNext(t, "of a bad first check", firstBad[:n], nil, 0, api.ErrBad)
	}
	for n := range len(b) {
		checkNext(t, "of a bad second check, cut", secondBad[:n], nil, 0, api.ErrShort)
	}
	checkNext(t, "of a bad second check", secondBad, nil, 0, api.ErrBad)
}

// P5.2: the checks are masked ones, the lowest byte first, each of its own bytes.
func TestNextOtherChecks(t *testing.T) {
	data := []byte("hello")
	length := little(5)
	table := crc32.MakeTable(crc32.Castagnoli)
	first, second := masked(length), masked(data)
	for what, checks := range map[string][2]uint32{
		"first not masked":    {crc32.Checksum(length, table), second},
		"second not masked":   {first, crc32.Checksum(data, table)},
		"one for the other":   {second, first},
		"first of no bytes":   {masked(nil), second},
		"second of no bytes":  {first, masked(nil)},
		"first turned round":  {bits.ReverseBytes32(first), second},
		"second turned round": {first, bits.ReverseBytes32(second)},
	} {
		b := slices.Concat(length, little(checks[0]), little(checks[1]), data)
		checkNext(t, what, b, nil, 0, api.ErrBad)
	}
}

// flipped is b with the bits of pattern turned from a bit on, or nil, if that is beyond its end.
func flipped(b []byte, at int, pattern uint32) []byte {
	b = bytes.Clone(b)
	for i := range 32 {
		if pattern>>i&1 == 0 {
			continue
		}
		if at+i >= 8*len(b) {
			return nil
		}
		b[(at+i)/8] ^= 1 << ((at + i) % 8)
	}
	return b
}

// P5.4: bits turned within 32 side by side, in the first 4 bytes or in the record's own, make it ErrBad.
func TestNextFlipped(t *testing.T) {
	patterns := []uint32{1, 3, 5, 0x80000001, 0xffffffff, 0xff, 0x82f63b78, 0x1edc6f41, 0xdeadbeef}
	data := sample(300)
	b := plain(300, data)
	for _, pattern := range patterns {
		for at := range 32 {
			if length := flipped(b[:4], at, pattern); length != nil {
				checkNext(t, "with its length turned", append(length, b[4:]...), nil, 0, api.ErrBad)
			}
		}
		for at := range 8 * len(data) {
			if turned := flipped(data, at, pattern); turned != nil {
				checkNext(t, "with its bytes turned", append(bytes.Clone(b[:Head]), turned...), nil, 0, api.ErrBad)
			}
		}
	}
}

// P5.4: a byte turned anywhere, in any way, is ErrBad.
func TestNextEachByteTurned(t *testing.T) {
	b := of("hello, hello")
	for at := range b {
		for by := 1; by < 256; by++ {
			c := bytes.Clone(b)
			c[at] ^= byte(by)
			checkNext(t, "with a byte turned", c, nil, 0, api.ErrBad)
		}
	}
}

// P5.3: all records up to the end, whatever they hold, records too.
func TestAllWhole(t *testing.T) {
	checkAll(t, "of nothing", nil, nil, 0, api.OK)
	checkAll(t, "of nothing", []byte{}, nil, 0, api.OK)
	texts := []string{"a", "", "hello", "", string(of("inner")), string(sample(3000))}
	var b []byte
	for i, text := range texts {
		b, _ = Put(b, []byte(text))
		checkAll(t, "of whole records", b, texts[:i+1], len(b), api.OK)
	}
}

// P5.3: cut anywhere, the records that are whole are there, and how many bytes they have.
func TestAllCut(t *testing.T) {
	texts := []string{"a", "", "hello", "bc"}
	var b []byte
	ends := []int{0}
	for _, text := range texts {
		b = append(b, of(text)...)
		ends = append(ends, len(b))
	}
	for n := range len(b) + 1 {
		whole := 0
		for whole < len(texts) && ends[whole+1] <= n {
			whole++
		}
		checkAll(t, "of what is cut", b[:n], texts[:whole], ends[whole], api.OK)
	}
}

// P5.3: a bad record ends it, beside those ahead of it; those behind it aren't told.
func TestAllBad(t *testing.T) {
	one, two, three := of("one"), of("twotwo"), of("three")
	for at := range two {
		bad := bytes.Clone(two)
		bad[at] ^= 16
		checkAll(t, "with a bad record in the middle", slices.Concat(one, bad, three), []string{"one"}, len(one), api.ErrBad)
		checkAll(t, "with a bad record first", slices.Concat(bad, one), nil, 0, api.ErrBad)
		checkAll(t, "with a bad record last", slices.Concat(one, three, bad), []string{"one", "three"}, len(one)+len(three), api.ErrBad)
	}
	checkAll(t, "with a length that is too great", slices.Concat(one, plain(Most+1, nil)), []string{"one"}, len(one), api.ErrBad)
	checkAll(t, "of noughts", make([]byte, 40), nil, 0, api.ErrBad)
	checkAll(t, "of few noughts", make([]byte, 11), nil, 0, api.OK)
}

// P5.3: the lists of an answer share no memory with one another, nor with what was given.
func TestAllNewMemory(t *testing.T) {
	b := slices.Concat(of("one"), of("two"), of("three"))
	list, _, _ := All(b)
	for i := range b {
		b[i] = 0
	}
	for i, want := range []string{"one", "two", "three"} {
		if string(list[i]) != want {
			t.Errorf("record %d: %q, want %q", i, list[i], want)
		}
		list[i] = append(list[i], "xxxxxxxxxxxxxxxx"...)
		clear(list[i][:cap(list[i])])
	}
}

func FuzzAll(f *testing.F) {
	f.Add(of("hello"))
	f.Add(slices.Concat(of("a"), of(""), []byte{1}))
	f.Fuzz(func(t *testing.T, b []byte) {
		list, n, e := All(b)
		var again []byte
		for _, data := range list {
			again, _ = Put(again, data)
		}
		if !bytes.Equal(again, b[:n]) {
			t.Errorf("All(%x): %d", b, n)
		}
		want := e
		if e == api.OK {
			want = api.ErrShort
		}
		if _, _, next := Next(b[n:]); next != want {
			t.Errorf("Next behind All(%x): %d, want %d", b, next, want)
		}
	})
}
