package tx

import (
	"bytes"
	"crypto/sha256"
	"encoding/binary"
	"encoding/hex"
	"math"
	"slices"
	"strings"
	"testing"

	"tailrace/api"
)

// laid is a count as the document tells it.
func laid(n int) []byte {
	switch {
	case n < 253:
		return []byte{byte(n)}
	case n < 1<<16:
		return []byte{253, byte(n), byte(n >> 8)}
	}
	return []byte{254, byte(n), byte(n >> 8), byte(n >> 16), byte(n >> 24)}
}

func laidText(s string) []byte {
	return append(laid(len(s)), s...)
}

// plain is a transaction's bytes as the document tells them.
func plain(t Tx, witnesses bool) []byte {
	le := binary.LittleEndian
	b := le.AppendUint32(nil, uint32(t.Version))
	if witnesses {
		b = append(b, 0, 1)
	}
	b = append(b, laid(len(t.Ins))...)
	for _, x := range t.Ins {
		b = append(b, x.From.Id[:]...)
		b = le.AppendUint32(b, x.From.Out)
		b = append(b, laidText(x.Script)...)
		b = le.AppendUint32(b, x.Seq)
	}
	b = append(b, laid(len(t.Outs))...)
	for _, x := range t.Outs {
		b = le.AppendUint64(b, uint64(x.Coins))
		b = append(b, laidText(x.Script)...)
	}
	if witnesses {
		for _, x := range t.Ins {
			b = append(b, laid(len(x.Witness))...)
			for _, part := range x.Witness {
				b = append(b, laidText(part)...)
			}
		}
	}
	return le.AppendUint32(b, t.Lock)
}

// twice is the digest of a digest, by the library.
func twice(b []byte) api.Hash {
	once := sha256.Sum256(b)
	return sha256.Sum256(once[:])
}

// with tells whether an input has a witness.
func with(t Tx) bool {
	return slices.ContainsFunc(t.Ins, func(x In) bool { return len(x.Witness) > 0 })
}

// bare is a copy without witnesses.
func bare(t Tx) Tx {
	t.Ins = slices.Clone(t.Ins)
	for i := range t.Ins {
		t.Ins[i].Witness = nil
	}
	return t
}

// deep is a copy that shares nothing.
func deep(t Tx) Tx {
	t.Ins = slices.Clone(t.Ins)
	for i := range t.Ins {
		t.Ins[i].Witness = slices.Clone(t.Ins[i].Witness)
	}
	t.Outs = slices.Clone(t.Outs)
	return t
}

func same(x, y Tx) bool {
	return x.Version == y.Version && x.Lock == y.Lock && slices.Equal(x.Outs, y.Outs) &&
		slices.EqualFunc(x.Ins, y.Ins, func(a, b In) bool {
			return a.From == b.From && a.Script == b.Script && a.Seq == b.Seq && slices.Equal(a.Witness, b.Witness)
		})
}

// small is one input, one output, all empty.
func small() Tx {
	return Tx{Ins: []In{{}}, Outs: []Out{{}}}
}

// ins is so many inputs, no two alike.
func ins(n int) []In {
	list := make([]In, n)
	for i := range list {
		list[i].From = Point{Id: api.Hash{0: byte(i), 31: byte(i >> 8)}, Out: uint32(i)}
		list[i].Seq = math.MaxUint32 - uint32(i)
	}
	return list
}

// outs is so many outputs, no two alike.
func outs(n int) []Out {
	list := make([]Out, n)
	for i := range list {
		list[i].Coins = int64(i) << 20
	}
	return list
}

// parts is so many parts of so many bytes.
func parts(n, size int) []string {
	return slices.Repeat([]string{strings.Repeat("p", size)}, n)
}

// full has just so many bytes, with a witness or without.
func full(size int, witness bool) Tx {
	t := small()
	if witness {
		t.Ins[0].Witness = []string{"w"}
	}
	for at := 0; ; at++ {
		missing := size - len(plain(t, witness))
		if missing <= MostScript {
			t.Outs[at].Script = strings.Repeat("x", max(0, missing-2))
			missing = size - len(plain(t, witness))
			t.Outs[at].Script += strings.Repeat("x", missing)
			return t
		}
		t.Outs[at].Script = strings.Repeat("x", 9000)
		t.Outs = append(t.Outs, Out{})
	}
}

// samples are transactions that are right, the edges among them.
func samples() []Tx {
	long := strings.Repeat("s", MostScript)
	list := []Tx{
		small(),
		{Version: 2, Ins: []In{{From: Point{api.Hash{7}, 3}, Script: "ab", Seq: 5}}, Outs: []Out{{258, "c"}}, Lock: 9},
		{Version: -1, Ins: []In{{From: Nowhere(), Seq: math.MaxUint32}}, Outs: []Out{{-1, "\x00\xff"}}, Lock: math.MaxUint32},
		{Version: math.MinInt32, Ins: ins(1), Outs: []Out{{math.MinInt64, ""}, {math.MaxInt64, ""}}, Lock: 1 << 31},
		{Version: math.MaxInt32, Ins: ins(2), Outs: outs(3)},
		{Ins: ins(252), Outs: outs(253)},
		{Ins: ins(253), Outs: outs(252)},
		{Ins: ins(256), Outs: outs(1)},
		{Ins: ins(api.MaxList), Outs: outs(api.MaxList)},
		{Ins: []In{{Script: long}}, Outs: []Out{{1, long}}},
		{Ins: []In{{Script: long[:252]}, {Script: long[:253]}}, Outs: []Out{{1, long[:255]}, {2, long[:256]}}},
		{Ins: []In{{Witness: []string{""}}}, Outs: outs(1)},
		{Ins: []In{{}, {Witness: []string{"w", ""}}, {Script: "z"}}, Outs: outs(2), Lock: 1},
		{Ins: []In{{Witness: []string{"", "\x00\x01", "a"}}, {}}, Outs: outs(2)},
		{Ins: []In{{From: Nowhere(), Witness: parts(MostParts, 3)}, {Witness: []string{long}}}, Outs: outs(2)},
		{Ins: []In{{Script: "s", Witness: []string{long[:252], long[:253]}}}, Outs: outs(1)},
		full(api.MaxTx-1, false), full(api.MaxTx, false), full(api.MaxTx-1, true), full(api.MaxTx, true),
	}
	all := ins(api.MaxList)
	for i := range all {
		all[i].Witness = []string{"", "x"}[:i%3%2+i%2]
	}
	return append(list, Tx{Ins: all, Outs: outs(1)})
}

// P7.1: an Id of noughts, and 2^32 - 1.
func TestNowhere(t *testing.T) {
	if p := Nowhere(); p.Id != (api.Hash{}) || p.Out != 4294967295 {
		t.Errorf("Nowhere: %v", p)
	}
}

// P7.1: one input, and from nowhere; near misses aren't First.
func TestFirst(t *testing.T) {
	nowhere := In{From: Nowhere()}
	for i, c := range []struct {
		x    Tx
		want bool
	}{
		{Tx{}, false},
		{Tx{Outs: outs(1)}, false},
		{Tx{Ins: []In{nowhere}}, true},
		{Tx{Ins: []In{nowhere}, Outs: outs(3)}, true},
		{Tx{Ins: []In{{From: Nowhere(), Script: "s", Seq: 7, Witness: []string{"w"}}}, Version: 3, Lock: 4}, true},
		{Tx{Ins: []In{nowhere, nowhere}, Outs: outs(1)}, false},
		{Tx{Ins: []In{nowhere, {}}}, false},
		{Tx{Ins: []In{{}, nowhere}}, false},
		{Tx{Ins: []In{{}}}, false},
		{Tx{Ins: []In{{From: Point{Out: math.MaxUint32 - 1}}}}, false},
		{Tx{Ins: []In{{From: Point{Id: api.Hash{0: 1}, Out: math.MaxUint32}}}}, false},
		{Tx{Ins: []In{{From: Point{Id: api.Hash{31: 1}, Out: math.MaxUint32}}}}, false},
	} {
		if got := c.x.First(); got != c.want {
			t.Errorf("First %d: %v, want %v", i, got, c.want)
		}
	}
}

// P7.1: each bound, and which error is named first where several apply. Encode tells the same ones.
func TestCheck(t *testing.T) {
	long := strings.Repeat("s", MostScript+1)
	one := outs(1)
	for i, c := range []struct {
		x Tx
		e api.Errno
	}{
		{Tx{}, api.ErrArg},
		{Tx{Ins: ins(1)}, api.ErrArg},
		{Tx{Outs: one}, api.ErrArg},
		{Tx{Ins: []In{}, Outs: []Out{}}, api.ErrArg},
		{Tx{Ins: ins(api.MaxList + 1)}, api.ErrArg},
		{Tx{Outs: outs(api.MaxList + 1)}, api.ErrArg},
		{Tx{Ins: []In{{Script: long, Witness: parts(101, 0)}}}, api.ErrArg},
		{Tx{Ins: ins(api.MaxList + 1), Outs: one}, api.ErrMany},
		{Tx{Ins: ins(1), Outs: outs(api.MaxList + 1)}, api.ErrMany},
		{Tx{Ins: ins(api.MaxList), Outs: outs(api.MaxList)}, api.OK},
		{Tx{Ins: []In{{Script: long}}, Outs: outs(api.MaxList + 1)}, api.ErrMany},
		{Tx{Ins: []In{{Witness: parts(MostParts, 1)}}, Outs: one}, api.OK},
		{Tx{Ins: []In{{Witness: parts(MostParts+1, 0)}}, Outs: one}, api.ErrMany},
		{Tx{Ins: []In{{}, {Witness: parts(MostParts+1, 0)}}, Outs: one}, api.ErrMany},
		{Tx{Ins: []In{{Script: long, Witness: parts(MostParts+1, 0)}}, Outs: one}, api.ErrMany},
		{Tx{Ins: []In{{Witness: parts(MostParts+1, MostScript+1)}}, Outs: one}, api.ErrMany},
		{Tx{Ins: []In{{Script: long}, {Witness: parts(MostParts+1, 0)}}, Outs: one}, api.ErrLong},
		{Tx{Ins: []In{{Witness: []string{long}}, {Witness: parts(MostParts+1, 0)}}, Outs: one}, api.ErrLong},
		{Tx{Ins: []In{{Witness: parts(MostParts+1, 0)}, {Script: long}}, Outs: one}, api.ErrMany},
		{Tx{Ins: []In{{}, {Witness: parts(MostParts+1, 0)}}, Outs: []Out{{Script: long}}}, api.ErrMany},
		{Tx{Ins: []In{{Script: long[1:]}}, Outs: one}, api.OK},
		{Tx{Ins: []In{{Script: long}}, Outs: one}, api.ErrLong},
		{Tx{Ins: []In{{}, {Script: long}}, Outs: one}, api.ErrLong},
		{Tx{Ins: []In{{Witness: []string{long[1:], long[1:]}}}, Outs: one}, api.OK},
		{Tx{Ins: []In{{Witness: []string{"", long}}}, Outs: one}, api.ErrLong},
		{Tx{Ins: ins(1), Outs: []Out{{Script: long[1:]}}}, api.OK},
		{Tx{Ins: ins(1), Outs: []Out{{Script: long}}}, api.ErrLong},
		{Tx{Ins: ins(1), Outs: []Out{{}, {}, {Script: long}}}, api.ErrLong},
		{Tx{Ins: ins(1), Outs: []Out{{Coins: -1}, {Coins: math.MaxInt64}}}, api.OK},
	} {
		if e := c.x.Check(); e != c.e {
			t.Errorf("Check %d: %d, want %d", i, e, c.e)
		}
		b, e := c.x.Encode()
		if want := c.e; want != api.OK && (e != want || len(b) > 0) {
			t.Errorf("Encode %d: %d bytes, %d, want %d", i, len(b), e, want)
		}
	}
}

// P7.1: the bytes are as the document tells them; the Id is the Double of those without witnesses.
func TestEncode(t *testing.T) {
	for i, x := range samples() {
		had := deep(x)
		if e := x.Check(); e != api.OK {
			t.Errorf("Check of sample %d: %d", i, e)
		}
		b, e := x.Encode()
		want := plain(x, with(x))
		if len(want) > api.MaxTx {
			if e != api.ErrLong || len(b) > 0 {
				t.Errorf("Encode of sample %d of %d bytes: %d bytes, %d", i, len(want), len(b), e)
			}
		} else if e != api.OK || !bytes.Equal(b, want) {
			t.Errorf("Encode of sample %d: %x, %d, want %x", i, b, e, want)
		}
		if id, want := x.Id(), twice(plain(x, false)); id != want {
			t.Errorf("Id of sample %d: %x, want %x", i, id, want)
		}
		x.First()
		x.Coins()
		if !same(x, had) {
			t.Errorf("sample %d was turned", i)
		}
		// New memory: turning an answer turns no other one.
		for j := range b {
			b[j]++
		}
		if again, e := x.Encode(); e == api.OK && !bytes.Equal(again, want) {
			t.Errorf("Encode of sample %d shares its answer", i)
		}
	}
}

// P7.1: the least transaction has 60 bytes, written out.
func TestEncodeLeast(t *testing.T) {
	want := make([]byte, 60)
	want[4], want[46] = 1, 1
	if b, e := small().Encode(); e != api.OK || !bytes.Equal(b, want) {
		t.Errorf("Encode: %x, %d", b, e)
	}
	x := small()
	x.Ins[0].Witness = []string{""}
	want = make([]byte, 64)
	want[5], want[6], want[48], want[58] = 1, 1, 1, 1
	if b, e := x.Encode(); e != api.OK || len(b) != 64 || !bytes.Equal(b[:58], want[:58]) || b[58] != 1 {
		t.Errorf("Encode with a witness: %x, %d", b, e)
	}
	x.Ins[0].Witness = []string{}
	if b, e := x.Encode(); e != api.OK || len(b) != 60 {
		t.Errorf("Encode with an empty witness: %x, %d", b, e)
	}
}

// P7.1: MaxTx bytes are right, one more is too long, by texts or by what stands around them.
func TestEncodeLong(t *testing.T) {
	for _, witness := range []bool{false, true} {
		for size := api.MaxTx - 5; size <= api.MaxTx+5; size++ {
			x := full(size, witness)
			if n := len(plain(x, witness)); n != size {
				t.Fatalf("full(%d): %d", size, n)
			}
			b, e := x.Encode()
			if size <= api.MaxTx && (e != api.OK || len(b) != size) {
				t.Errorf("Encode of %d bytes: %d bytes, %d", size, len(b), e)
			}
			if size > api.MaxTx && (e != api.ErrLong || len(b) > 0) {
				t.Errorf("Encode of %d bytes: %d bytes, %d", size, len(b), e)
			}
		}
	}
	// Without its witness it would do.
	x := Tx{Ins: []In{{Witness: parts(7, MostScript)}}, Outs: outs(1)}
	if b, e := x.Encode(); e != api.ErrLong || len(b) > 0 {
		t.Errorf("Encode of a long witness: %d bytes, %d", len(b), e)
	}
	// The texts alone would do.
	x = Tx{Ins: ins(api.MaxList), Outs: outs(api.MaxList)}
	for i := range x.Ins {
		x.Ins[i].Script = strings.Repeat("s", 14)
	}
	if b, e := x.Encode(); e != api.ErrLong || len(b) > 0 {
		t.Errorf("Encode of many inputs and outputs: %d bytes, %d", len(b), e)
	}
	// As much as Check lets through: no room is taken for it.
	x.Outs[0].Script = strings.Repeat("s", MostScript)
	for i := range x.Ins {
		x.Ins[i].Witness = slices.Repeat([]string{x.Outs[0].Script}, MostParts)
	}
	if b, e := x.Encode(); e != api.ErrLong || len(b) > 0 {
		t.Errorf("Encode of a gigabyte: %d bytes, %d", len(b), e)
	}
}

// P7.1: an Id is told of transactions, too, that can't be encoded.
func TestIdOutOfBounds(t *testing.T) {
	for i, x := range []Tx{
		{},
		{Outs: outs(1)},
		{Ins: ins(1)},
		{Ins: ins(api.MaxList + 1), Outs: outs(api.MaxList + 1)},
		{Ins: []In{{Script: strings.Repeat("s", 1<<16), Witness: parts(101, 1)}}, Outs: outs(1)},
		full(api.MaxTx+1, false),
	} {
		if id, want := x.Id(), twice(plain(x, false)); id != want {
			t.Errorf("Id %d: %x, want %x", i, id, want)
		}
	}
}

// P7.1, P7.2: transactions that stand in Bitcoin's own chain, or in its proposals.
func TestKnown(t *testing.T) {
	first := "01000000" + "01" + strings.Repeat("00", 32) + "ffffffff" +
		"4d04ffff001d0104455468652054696d65732030332f4a616e2f32303039204368616e63656c6c6f72206f6e206272696e6b206f66207365636f6e64206261696c6f757420666f722062616e6b73" +
		"ffffffff" + "01" + "00f2052a01000000" +
		"434104678afdb0fe5548271967f1a67130b7105cd6a828e03909a67962e0ea1f61deb649f6bc3f4cef38c4f35504e51ec112de5c384df7ba0b8d578a4c702b6bf11d5fac" +
		"00000000"
	b, _ := hex.DecodeString(first)
	x, n, e := Decode(b)
	if e != api.OK || n != len(b) || !x.First() {
		t.Fatalf("Decode: %v, %d, %d", x, n, e)
	}
	if coins, ok := x.Coins(); coins != 5000000000 || !ok {
		t.Errorf("Coins: %d, %v", coins, ok)
	}
	if !strings.HasSuffix(x.Ins[0].Script, "second bailout for banks") {
		t.Errorf("Script: %q", x.Ins[0].Script)
	}
	if id := x.Id(); hex.EncodeToString(id[:]) != "3ba3edfd7a7b12b27ac72c3e67768f617fc81bc3888a51323a9fb8aa4b1e5e4a" {
		t.Errorf("Id: %x", id)
	}

	witness := "01000000" + "0001" + "02" +
		"fff7f7881a8099afa6940d42d1e7f6362bec38171ea3edf433541db4e4ad969f" + "00000000" +
		"494830450221008b9d1dc26ba6a9cb62127b02742fa9d754cd3bebf337f7a55d114c8e5cdd30be022040529b194ba3f9281a99f2b1c0a19c0489bc22ede944ccf4ecbab4cc618ef3ed01" +
		"eeffffff" +
		"ef51e1b804cc89d182d279655c3aa89e815b1b309fe287d9b2b55d57b90ec68a" + "01000000" + "00" + "ffffffff" +
		"02" + "202cb20600000000" + "1976a9148280b37df378db99f66f85c95a783a76ac7a6d5988ac" +
		"9093510d00000000" + "1976a9143bde42dbee7e4dbe6a21b2d50ce2f0167faa815988ac" +
		"00" + "02" +
		"47304402203609e17b84f6a7d30c80bfa610b5b4542f32a8a0d5447a12fb1366d7f01cc44a0220573a954c4518331561406f90300e8f3358f51928d43c212a8caed02de67eebee01" +
		"21025476c2e83188368da1ff3e292e7acafcdb3566bb0ad253f62fc70f07aeee6357" +
		"11000000"
	b, _ = hex.DecodeString(witness)
	x, n, e = Decode(b)
	if e != api.OK || n != len(b) || x.First() || len(x.Ins) != 2 || len(x.Outs) != 2 || x.Lock != 17 {
		t.Fatalf("Decode: %v, %d, %d", x, n, e)
	}
	if len(x.Ins[0].Witness) != 0 || len(x.Ins[1].Witness) != 2 || len(x.Ins[1].Witness[0]) != 71 || len(x.Ins[1].Witness[1]) != 33 {
		t.Errorf("Witness: %q, %q", x.Ins[0].Witness, x.Ins[1].Witness)
	}
	if x.Outs[0].Coins != 112340000 || x.Outs[1].Coins != 223450000 {
		t.Errorf("Outs: %v", x.Outs)
	}
	if again, e := x.Encode(); e != api.OK || !bytes.Equal(again, b) {
		t.Errorf("Encode: %x, %d", again, e)
	}
}

// P7.3: sums in bounds, and each way out of them, sums that wrap round among them.
func TestCoins(t *testing.T) {
	const most = api.MaxCoins
	for i, c := range []struct {
		coins []int64
		want  int64
		ok    bool
	}{
		{nil, 0, true},
		{[]int64{0}, 0, true},
		{[]int64{0, 0, 7}, 7, true},
		{[]int64{3, 4, 5}, 12, true},
		{[]int64{most}, 2100000000000000, true},
		{[]int64{0, most, 0}, most, true},
		{[]int64{most - 5, 2, 3}, most, true},
		{[]int64{most - 5, 2, 4}, 0, false},
		{[]int64{most + 1}, 0, false},
		{[]int64{most, 1}, 0, false},
		{[]int64{1, most}, 0, false},
		{[]int64{-1}, 0, false},
		{[]int64{5, -1}, 0, false},
		{[]int64{-1, 5}, 0, false},
		{[]int64{most, -1}, 0, false},
		{[]int64{most, 1, -1}, 0, false},
		{[]int64{most + 1, -1}, 0, false},
		{[]int64{math.MaxInt64}, 0, false},
		{[]int64{math.MinInt64}, 0, false},
		{[]int64{1, math.MaxInt64}, 0, false},
		{[]int64{math.MaxInt64, math.MaxInt64, 2}, 0, false},
		{[]int64{math.MinInt64, math.MinInt64}, 0, false},
		{slices.Repeat([]int64{most}, 8784), 0, false},
	} {
		x := Tx{}
		for _, coins := range c.coins {
			x.Outs = append(x.Outs, Out{Coins: coins})
		}
		if got, ok := x.Coins(); got != c.want || ok != c.ok {
			t.Errorf("Coins %d: %d, %v, want %d, %v", i, got, ok, c.want, c.ok)
		}
	}
}

// P7.4: one Id whatever the witnesses are, and another one if anything else is another.
func TestIdWitnesses(t *testing.T) {
	for i, x := range samples() {
		id := x.Id()
		for j, witness := range [][]string{nil, {}, {""}, {"w"}, {"w", "v"}, parts(MostParts, 9), parts(MostParts+1, 1)} {
			y := deep(x)
			y.Ins[len(y.Ins)-1].Witness = witness
			if y.Id() != id {
				t.Errorf("Id of sample %d hangs on witness %d", i, j)
			}
		}
		for j, turn := range []func(y *Tx){
			func(y *Tx) { y.Version++ },
			func(y *Tx) { y.Lock++ },
			func(y *Tx) { y.Ins[0].From.Id[31]++ },
			func(y *Tx) { y.Ins[0].From.Out++ },
			func(y *Tx) { y.Ins[0].Script += "\x00" },
			func(y *Tx) { y.Ins[0].Seq++ },
			func(y *Tx) { y.Outs[0].Coins++ },
			func(y *Tx) { y.Outs[0].Script += "\x00" },
			func(y *Tx) { y.Ins = append(y.Ins, In{}) },
			func(y *Tx) { y.Outs = append(y.Outs, Out{}) },
		} {
			y := deep(x)
			turn(&y)
			if y.Id() == id {
				t.Errorf("Id of sample %d is the same behind turn %d", i, j)
			}
		}
	}
}
