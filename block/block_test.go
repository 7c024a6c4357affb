package block

import (
	"bytes"
	"encoding/binary"
	"encoding/hex"
	"math"
	"slices"
	"strings"
	"testing"

	"tailrace/api"
	"tailrace/tx"
)

// coinbase is a transaction that makes coins; text makes it one of its own.
func coinbase(text string) tx.Tx {
	return tx.Tx{Version: 1, Ins: []tx.In{{From: tx.Nowhere(), Script: text}}, Outs: []tx.Out{{Coins: 50, Script: "a"}}}
}

// spend is a transaction that spends an output that n tells.
func spend(n int) tx.Tx {
	from := tx.Point{Id: api.Hash{0: byte(n), 1: byte(n >> 8), 2: 1}, Out: uint32(n)}
	return tx.Tx{Version: 2, Ins: []tx.In{{From: from, Seq: 3}}, Outs: []tx.Out{{Coins: int64(n), Script: "b"}}, Lock: 4}
}

// signed is a transaction with witnesses.
func signed(n int) tx.Tx {
	t := spend(n)
	t.Ins[0].Witness = []string{"", "proof"}
	t.Ins = append(t.Ins, tx.In{From: tx.Point{Id: api.Hash{9}}})
	return t
}

// spends is so many transactions that spend, behind one that makes coins.
func spends(n int) []tx.Tx {
	list := []tx.Tx{coinbase("first")}
	for i := range n {
		list = append(list, spend(i))
	}
	return list
}

func sampleHead() Header {
	return Header{Version: 0x04030201, Prev: api.Hash{0: 5, 31: 6}, Root: api.Hash{0: 7, 31: 8}, Time: 0x0c0b0a09, Bits: 0x100f0e0d, Nonce: 0x14131211}
}

// rooted is a block of transactions with their root.
func rooted(txs ...tx.Tx) Block {
	b := Block{Head: sampleHead(), Txs: txs}
	var ids []api.Hash
	for _, t := range txs {
		ids = append(ids, t.Id())
	}
	b.Head.Root = api.Hash{}
	if len(ids) > 0 {
		all := rows(ids)
		b.Head.Root = all[len(all)-1][0]
	}
	return b
}

// headBytes is a header's bytes as the document tells them.
func headBytes(h Header) []byte {
	le := binary.LittleEndian
	b := le.AppendUint32(nil, uint32(h.Version))
	b = slices.Concat(b, h.Prev[:], h.Root[:])
	b = le.AppendUint32(b, h.Time)
	b = le.AppendUint32(b, h.Bits)
	return le.AppendUint32(b, h.Nonce)
}

// laid is a count as the document tells it.
func laid(n int) []byte {
	if n < 253 {
		return []byte{byte(n)}
	}
	return []byte{253, byte(n), byte(n >> 8)}
}

// blockBytes is a block's bytes as the document tells them.
func blockBytes(t *testing.T, x Block) []byte {
	t.Helper()
	b := append(headBytes(x.Head), laid(len(x.Txs))...)
	for i, one := range x.Txs {
		part, e := one.Encode()
		if e != api.OK {
			t.Fatalf("transaction %d can't be encoded: %d", i, e)
		}
		b = append(b, part...)
	}
	return b
}

func sameTx(x, y tx.Tx) bool {
	return x.Version == y.Version && x.Lock == y.Lock && slices.Equal(x.Outs, y.Outs) &&
		slices.EqualFunc(x.Ins, y.Ins, func(a, b tx.In) bool {
			return a.From == b.From && a.Script == b.Script && a.Seq == b.Seq && slices.Equal(a.Witness, b.Witness)
		})
}

func sameBlock(x, y Block) bool {
	return x.Head == y.Head && slices.EqualFunc(x.Txs, y.Txs, sameTx)
}

// deep is a copy that shares nothing.
func deep(x Block) Block {
	x.Txs = slices.Clone(x.Txs)
	for i := range x.Txs {
		x.Txs[i].Outs = slices.Clone(x.Txs[i].Outs)
		x.Txs[i].Ins = slices.Clone(x.Txs[i].Ins)
		for j := range x.Txs[i].Ins {
			x.Txs[i].Ins[j].Witness = slices.Clone(x.Txs[i].Ins[j].Witness)
		}
	}
	return x
}

// sized is a transaction that has so many bytes: 60 to MaxTx.
func sized(t *testing.T, n, size int) tx.Tx {
	t.Helper()
	x := spend(n)
	rest := size - 60
	for rest > 9500 {
		x.Outs = append(x.Outs, tx.Out{Script: strings.Repeat("s", 9000)})
		rest -= 8 + 3 + 9000
	}
	// A script of 253 bytes or more has two bytes more of length: two sizes are met by two scripts.
	if rest == 253 || rest == 254 {
		x.Ins[0].Script = strings.Repeat("i", 100)
		rest -= 100
	}
	if rest > 254 {
		rest -= 2
	}
	x.Outs[0].Script = strings.Repeat("o", rest)
	if b, e := x.Encode(); e != api.OK || len(b) != size {
		t.Fatalf("a transaction of %d bytes has %d: %d", size, len(b), e)
	}
	return x
}

// P8.1: bytes, Ids and what is read again.
func TestHeader(t *testing.T) {
	for i, h := range []Header{
		{},
		sampleHead(),
		{Version: -1},
		{Version: math.MinInt32},
		{Version: math.MaxInt32, Time: math.MaxUint32},
		{Bits: math.MaxUint32},
		{Nonce: math.MaxUint32},
		{Nonce: 1},
		{Prev: api.Hash{31: 1}},
		{Root: api.Hash{31: 1}},
	} {
		want := headBytes(h)
		b := h.Bytes()
		if len(b) != Size || !bytes.Equal(b, want) {
			t.Errorf("Bytes %d: %x, want %x", i, b, want)
		}
		if got := h.Id(); got != double(want) {
			t.Errorf("Id %d: %x", i, got)
		}
		for _, behind := range []int{0, 1, 80, 1 << 20} {
			if got, e := Parse(append(slices.Clone(want), make([]byte, behind)...)); got != h || e != api.OK {
				t.Errorf("Parse %d and %d bytes: %v, %d", i, behind, got, e)
			}
		}
		for n := range Size {
			if got, e := Parse(want[:n]); got != (Header{}) || e != api.ErrShort {
				t.Errorf("Parse %d cut to %d: %v, %d", i, n, got, e)
			}
		}
	}
	if got, e := Parse(nil); got != (Header{}) || e != api.ErrShort {
		t.Errorf("Parse nil: %v, %d", got, e)
	}
}

// P8.1: each byte stands at its place, and is new memory.
func TestHeaderBytes(t *testing.T) {
	h := sampleHead()
	b := h.Bytes()
	want := "01020304" + "05" + strings.Repeat("00", 30) + "06" + "07" + strings.Repeat("00", 30) + "08" + "090a0b0c" + "0d0e0f10" + "11121314"
	if got := hex.EncodeToString(b); got != want {
		t.Errorf("Bytes: %s, want %s", got, want)
	}
	id := h.Id()
	for i := range b {
		had := bytes.Clone(b)
		b[i] ^= 0x81
		turned, e := Parse(b)
		if e != api.OK || turned == h || turned.Id() == id || !bytes.Equal(turned.Bytes(), b) {
			t.Errorf("byte %d is not told: %v, %d", i, turned, e)
		}
		copy(b, had)
	}
	kept, _ := Parse(b)
	clear(b)
	if kept != h || h.Id() != id {
		t.Error("a header shares memory with its bytes")
	}
}

// P8.3: Ids are the transactions', witnesses or not.
func TestIds(t *testing.T) {
	b := Block{Txs: []tx.Tx{coinbase("x"), spend(1), signed(2), {}, spend(1)}}
	ids := b.Ids()
	for i, x := range b.Txs {
		if len(ids) != len(b.Txs) || ids[i] != x.Id() {
			t.Fatalf("Ids: %x", ids)
		}
	}
	b.Txs[2].Ins[0].Witness = []string{"another"}
	if !slices.Equal(b.Ids(), ids) {
		t.Error("Ids hang on a witness")
	}
	if ids := (Block{}).Ids(); len(ids) != 0 {
		t.Errorf("Ids of none: %x", ids)
	}
}

// change is a copy of a transaction that is turned.
func change(x tx.Tx, turn func(x *tx.Tx)) tx.Tx {
	y := deep(Block{Txs: []tx.Tx{x}}).Txs[0]
	turn(&y)
	return y
}

// Transactions that are wrong, each in one way.
func withoutOuts(x tx.Tx) tx.Tx {
	return change(x, func(x *tx.Tx) { x.Outs = nil })
}

func tooLong(x tx.Tx) tx.Tx {
	return change(x, func(x *tx.Tx) { x.Outs[0].Script = strings.Repeat("s", tx.MostScript+1) })
}

func tooMany(x tx.Tx) tx.Tx {
	return change(x, func(x *tx.Tx) { x.Outs = slices.Repeat(x.Outs, api.MaxList+1) })
}

func aboveMaxTx(x tx.Tx) tx.Tx {
	return change(x, func(x *tx.Tx) { x.Outs = slices.Repeat([]tx.Out{{Script: strings.Repeat("s", 8192)}}, 8) })
}

func paying(x tx.Tx, coins ...int64) tx.Tx {
	return change(x, func(x *tx.Tx) {
		x.Outs = nil
		for _, n := range coins {
			x.Outs = append(x.Outs, tx.Out{Coins: n})
		}
	})
}

// P8.3: what is right, and each thing that is wrong.
func TestCheck(t *testing.T) {
	first := coinbase("first")
	two := change(coinbase("two"), func(x *tx.Tx) { x.Ins = append(x.Ins, tx.In{From: tx.Nowhere()}) })
	near := change(coinbase("near"), func(x *tx.Tx) { x.Ins[0].From.Out-- })
	most := int64(api.MaxCoins)
	for _, x := range []struct {
		what string
		b    Block
		e    api.Errno
	}{
		{"one", rooted(first), api.OK},
		{"two", rooted(first, spend(1)), api.OK},
		{"witnesses", rooted(change(first, func(x *tx.Tx) { x.Ins[0].Witness = []string{"w"} }), signed(1), signed(2)), api.OK},
		{"of many", rooted(spends(api.MaxList)...), api.OK},
		{"of long ones", rooted(first, sized(t, 1, api.MaxTx), sized(t, 2, api.MaxTx), sized(t, 3, api.MaxTx), sized(t, 4, api.MaxTx)), api.OK},
		{"that spends Nowhere beside another", rooted(first, two), api.OK},
		{"whose coins are at the bound", rooted(paying(first, most), paying(spend(1), most-1, 1), paying(spend(2), 0)), api.OK},

		{"of none", rooted(), api.ErrForm},
		{"nothing at all", Block{}, api.ErrForm},
		{"whose first isn't First", rooted(spend(1)), api.ErrForm},
		{"whose first stands second", rooted(spend(1), first), api.ErrForm},
		{"whose first has two inputs", rooted(two), api.ErrForm},
		{"whose first spends nearly Nowhere", rooted(near), api.ErrForm},
		{"of two First", rooted(first, coinbase("second")), api.ErrForm},
		{"of the same First twice", rooted(first, first), api.ErrForm},
		{"of another First at the end", rooted(first, spend(1), spend(2), coinbase("second")), api.ErrForm},

		{"first without Outs", rooted(withoutOuts(first)), api.ErrForm},
		{"second without Outs", rooted(first, withoutOuts(spend(1))), api.ErrForm},
		{"second without all", rooted(first, tx.Tx{}), api.ErrForm},
		{"first too long", rooted(tooLong(first)), api.ErrForm},
		{"last too long", rooted(first, spend(1), tooLong(spend(2))), api.ErrForm},
		{"too many Outs", rooted(first, tooMany(spend(1))), api.ErrForm},
		{"first above MaxTx", rooted(aboveMaxTx(first)), api.ErrForm},
		{"second above MaxTx", rooted(first, aboveMaxTx(spend(1)), spend(2)), api.ErrForm},

		{"coins of the first", rooted(paying(first, -1)), api.ErrCoins},
		{"coins of the second", rooted(first, paying(spend(1), most+1)), api.ErrCoins},
		{"sum of coins", rooted(first, spend(1), paying(spend(2), most, 1)), api.ErrCoins},
		{"coins that wrap round", rooted(paying(first, math.MaxInt64, math.MaxInt64, 2)), api.ErrCoins},

		{"one twice", rooted(first, spend(1), spend(1)), api.ErrTwice},
		{"one twice, apart", rooted(first, spend(1), spend(2), spend(3), spend(1)), api.ErrTwice},
		{"one twice, by witness two", rooted(first, signed(1), change(signed(1), func(x *tx.Tx) { x.Ins[0].Witness = nil })), api.ErrTwice},
	} {
		had := deep(x.b)
		if e := x.b.Check(); e != x.e {
			t.Errorf("Check %s: %d, want %d", x.what, e, x.e)
		}
		if !sameBlock(x.b, had) {
			t.Errorf("Check %s turned what it was given", x.what)
		}
	}
}

// P8.3: the root of Ids, and none beside it.
func TestCheckRoot(t *testing.T) {
	for _, n := range []int{0, 1, 2, 3, 6} {
		b := rooted(spends(n)...)
		if e := b.Check(); e != api.OK {
			t.Errorf("Check of %d: %d", n, e)
		}
		for i := range b.Head.Root {
			x := b
			x.Head.Root[i] ^= 1
			if e := x.Check(); e != api.ErrRoot {
				t.Errorf("Check of %d, byte %d turned: %d", n, i, e)
			}
		}
		for what, x := range map[string]Block{
			"Version": {Head: Header{Root: b.Head.Root}, Txs: b.Txs},
			"Prev":    {Head: Header{Prev: api.Hash{1}, Root: b.Head.Root}, Txs: b.Txs},
		} {
			if e := x.Check(); e != api.OK {
				t.Errorf("Check of %d hangs on %s: %d", n, what, e)
			}
		}
		x := b
		x.Head.Root = api.Hash{}
		if e := x.Check(); e != api.ErrRoot {
			t.Errorf("Check of %d with noughts: %d", n, e)
		}
	}
	b := rooted(spends(3)...)
	b.Txs[1], b.Txs[2] = b.Txs[2], b.Txs[1]
	if e := b.Check(); e != api.ErrRoot {
		t.Errorf("Check of others in their order: %d", e)
	}
	// The last one once more leaves the root of three: it is told by its Id.
	b = rooted(spends(2)...)
	b.Txs = append(b.Txs, b.Txs[2])
	if Root(b.Ids()) != b.Head.Root {
		t.Fatal("the roots aren't one")
	}
	if e := b.Check(); e != api.ErrTwice {
		t.Errorf("Check of the last one once more: %d", e)
	}
}

// P8.3: where several things are wrong, the first that is named is told; transactions one by one.
func TestCheckOrder(t *testing.T) {
	first, poor := coinbase("first"), paying(spend(1), -1)
	for _, x := range []struct {
		what string
		txs  []tx.Tx
		e    api.Errno
	}{
		{"first isn't First, coins", []tx.Tx{poor}, api.ErrForm},
		{"first isn't First, twice", []tx.Tx{spend(1), spend(1)}, api.ErrForm},
		{"First behind, coins", []tx.Tx{first, paying(coinbase("second"), -1)}, api.ErrForm},
		{"form and coins in one", []tx.Tx{first, tooLong(poor)}, api.ErrForm},
		{"coins, then form", []tx.Tx{first, poor, tooLong(spend(2))}, api.ErrCoins},
		{"coins of the first, then form", []tx.Tx{paying(first, -1), {}}, api.ErrCoins},
		{"coins, then First", []tx.Tx{first, poor, coinbase("second")}, api.ErrCoins},
		{"coins of the first, then First", []tx.Tx{paying(first, -1), first}, api.ErrCoins},
		{"form, then coins", []tx.Tx{first, tooLong(spend(2)), poor}, api.ErrForm},
		{"First, then coins", []tx.Tx{first, coinbase("second"), poor}, api.ErrForm},
		{"twice, then coins", []tx.Tx{first, spend(2), spend(2), poor}, api.ErrCoins},
		{"twice, then form", []tx.Tx{first, spend(2), spend(2), withoutOuts(spend(1))}, api.ErrForm},
		{"coins twice", []tx.Tx{first, poor, poor}, api.ErrCoins},
		{"twice and no root", []tx.Tx{first, spend(2), spend(2)}, api.ErrTwice},
		{"no root", []tx.Tx{first, spend(2)}, api.ErrRoot},
	} {
		// The root is wrong throughout: all else comes ahead of it.
		if e := (Block{Txs: x.txs}).Check(); e != x.e {
			t.Errorf("Check %s: %d, want %d", x.what, e, x.e)
		}
	}
}
