package block

import (
	"bytes"
	"encoding/hex"
	"slices"
	"testing"

	"tailrace/api"
	"tailrace/tx"
)

// samples are blocks that can be encoded.
func samples(t *testing.T) []Block {
	return []Block{
		{},
		{Head: sampleHead()},
		rooted(coinbase("one")),
		rooted(coinbase("one"), spend(1), signed(2), spend(3)),
		{Head: sampleHead(), Txs: []tx.Tx{spend(1), spend(1), coinbase("x"), coinbase("x"), paying(spend(1), -1)}},
		rooted(spends(251)...),
		rooted(spends(252)...),
		rooted(spends(300)...),
		rooted(spends(api.MaxList - 1)...),
		rooted(sized(t, 1, api.MaxTx), sized(t, 2, 100), sized(t, 3, api.MaxTx), sized(t, 4, api.MaxTx)),
	}
}

// checkDecode tells whether an answer is what it should be, beside an error noughts, and what was given stays.
func checkDecode(t *testing.T, what string, b []byte, want Block, e api.Errno) {
	t.Helper()
	had := bytes.Clone(b)
	got, gotE := Decode(b)
	if !sameBlock(got, want) || gotE != e {
		t.Errorf("Decode %s: %d Txs, %d, want %d Txs, %d", what, len(got.Txs), gotE, len(want.Txs), e)
	}
	if !bytes.Equal(b, had) {
		t.Errorf("Decode %s turned what it was given", what)
	}
}

func checkRefused(t *testing.T, what string, b []byte, e api.Errno) {
	t.Helper()
	checkDecode(t, what, b, Block{}, e)
}

// P8.4: what is encoded is as the document tells it, and is decoded as it was.
func TestEncode(t *testing.T) {
	for i, x := range samples(t) {
		had := deep(x)
		want := blockBytes(t, x)
		b, e := x.Encode()
		if e != api.OK || !bytes.Equal(b, want) {
			t.Fatalf("Encode %d: %d bytes, %d, want %d", i, len(b), e, len(want))
		}
		checkDecode(t, "of a sample", b, x, api.OK)
		y, _ := Decode(b)
		// What is decoded hangs no more on the bytes, nor these on the block.
		for j := range b {
			b[j]++
		}
		if !sameBlock(x, had) || !sameBlock(y, had) {
			t.Errorf("sample %d shares memory with its bytes", i)
		}
	}
}

// P8.4: too many, whatever else is wrong; as many as there may be.
func TestEncodeMany(t *testing.T) {
	txs := spends(api.MaxList)
	if b, e := rooted(txs[:api.MaxList]...).Encode(); e != api.OK || len(b) == 0 {
		t.Errorf("Encode of MaxList: %d bytes, %d", len(b), e)
	}
	if b, e := (Block{Txs: txs}).Encode(); e != api.ErrMany || len(b) > 0 {
		t.Errorf("Encode of more: %d bytes, %d", len(b), e)
	}
	for what, one := range map[string]tx.Tx{"nothing": {}, "too long": tooLong(spend(1)), "a long one": sized(t, 1, api.MaxTx)} {
		many := Block{Txs: slices.Repeat([]tx.Tx{one}, api.MaxList+1)}
		if b, e := many.Encode(); e != api.ErrMany || len(b) > 0 {
			t.Errorf("Encode of more than MaxList times %s: %d bytes, %d", what, len(b), e)
		}
	}
}

// P8.4: a transaction's own error.
func TestEncodeWrong(t *testing.T) {
	for what, x := range map[string]struct {
		tx tx.Tx
		e  api.Errno
	}{
		"nothing":       {tx.Tx{}, api.ErrArg},
		"no Outs":       {withoutOuts(spend(1)), api.ErrArg},
		"too many":      {tooMany(spend(1)), api.ErrMany},
		"too long":      {tooLong(spend(1)), api.ErrLong},
		"above MaxTx":   {aboveMaxTx(spend(1)), api.ErrLong},
		"of many parts": {change(spend(1), func(x *tx.Tx) { x.Ins[0].Witness = make([]string, tx.MostParts+1) }), api.ErrMany},
	} {
		for at := range 3 {
			txs := spends(2)
			txs[at] = x.tx
			if b, e := (Block{Txs: txs}).Encode(); e != x.e || len(b) > 0 {
				t.Errorf("Encode of %s at %d: %d bytes, %d, want %d", what, at, len(b), e, x.e)
			}
		}
	}
	// One by one: the first that is wrong tells its error.
	txs := []tx.Tx{coinbase("x"), tooMany(spend(1)), {}}
	if _, e := (Block{Txs: txs}).Encode(); e != api.ErrMany {
		t.Errorf("Encode of two that are wrong: %d", e)
	}
	slices.Reverse(txs)
	if _, e := (Block{Txs: txs}).Encode(); e != api.ErrArg {
		t.Errorf("Encode of two that are wrong, the other way: %d", e)
	}
}

// filled is a block of five transactions that has so many bytes: somewhat below MaxBlock at least.
func filled(t *testing.T, size int) Block {
	t.Helper()
	x := Block{Head: sampleHead()}
	for i := range 3 {
		x.Txs = append(x.Txs, sized(t, i, api.MaxTx))
	}
	x.Txs = append(x.Txs, sized(t, 3, api.MaxTx-1000))
	x.Txs = append(x.Txs, sized(t, 4, size-Size-1-4*api.MaxTx+1000))
	if b := blockBytes(t, x); len(b) != size {
		t.Fatalf("a block of %d bytes has %d", size, len(b))
	}
	return x
}

// P8.4: as long as a block may be, and longer: header and count are among the bytes.
func TestMaxBlock(t *testing.T) {
	for size := api.MaxBlock - 90; size <= api.MaxBlock+90; size++ {
		x := filled(t, size)
		want := blockBytes(t, x)
		b, e := x.Encode()
		if size <= api.MaxBlock {
			if e != api.OK || !bytes.Equal(b, want) {
				t.Errorf("Encode of %d: %d bytes, %d", size, len(b), e)
			}
			checkDecode(t, "of a long one", want, x, api.OK)
			continue
		}
		if e != api.ErrLong || len(b) > 0 {
			t.Errorf("Encode of %d: %d bytes, %d", size, len(b), e)
		}
		checkRefused(t, "of one that is too long", want, api.ErrLong)
	}
}

// P8.4: too long so far comes ahead of what is wrong behind it, and behind what is wrong ahead of it.
func TestEncodeLongOrder(t *testing.T) {
	long := filled(t, api.MaxBlock+1).Txs
	for what, x := range map[string]struct {
		txs []tx.Tx
		e   api.Errno
	}{
		"behind":   {append(slices.Clone(long), tx.Tx{}), api.ErrLong},
		"ahead":    {append([]tx.Tx{{}}, long...), api.ErrArg},
		"the last": {append(slices.Clone(long[:4]), tx.Tx{}), api.ErrArg},
	} {
		if b, e := (Block{Txs: x.txs}).Encode(); e != x.e || len(b) > 0 {
			t.Errorf("Encode, %s: %d bytes, %d, want %d", what, len(b), e, x.e)
		}
	}
	// Many that are long, one list behind all of them: it ends where the bytes are too many.
	all := slices.Repeat([]tx.Tx{sized(t, 1, api.MaxTx)}, api.MaxList)
	if b, e := (Block{Txs: all}).Encode(); e != api.ErrLong || len(b) > 0 {
		t.Errorf("Encode of many long ones: %d bytes, %d", len(b), e)
	}
}

// P8.4: cut anywhere, or with more behind it, it has no right form.
func TestDecodeCut(t *testing.T) {
	for _, x := range samples(t) {
		b := blockBytes(t, x)
		step := 1 + len(b)/1000
		for n := 0; n < len(b); n += step {
			checkRefused(t, "of a beginning", b[:n], api.ErrForm)
		}
		checkRefused(t, "without its last byte", b[:len(b)-1], api.ErrForm)
		for _, behind := range [][]byte{{0}, {1}, {0, 0, 0}, make([]byte, 60), b} {
			if more := slices.Concat(b, behind); len(more) <= api.MaxBlock {
				checkRefused(t, "and more", more, api.ErrForm)
			}
		}
	}
	checkRefused(t, "of nothing", nil, api.ErrForm)
	checkRefused(t, "of a header alone", make([]byte, Size), api.ErrForm)
}

// P8.4: too long comes first, whatever the bytes are.
func TestDecodeLong(t *testing.T) {
	for _, x := range samples(t) {
		b := blockBytes(t, x)
		fill := make([]byte, api.MaxBlock-len(b))
		if len(fill) > 0 {
			checkRefused(t, "filled up", append(slices.Clone(b), fill...), api.ErrForm)
		}
		checkRefused(t, "filled up and one more", slices.Concat(b, fill, []byte{0}), api.ErrLong)
	}
	checkRefused(t, "of noughts", make([]byte, api.MaxBlock), api.ErrForm)
	checkRefused(t, "of noughts and one more", make([]byte, api.MaxBlock+1), api.ErrLong)
	checkRefused(t, "of very many", bytes.Repeat([]byte{255}, 8*api.MaxBlock), api.ErrLong)
}

// P8.4: counts that are wrong: above MaxList, not in their one form, cut, or not those of what follows.
func TestDecodeCounts(t *testing.T) {
	head := headBytes(sampleHead())
	one, _ := coinbase("x").Encode()
	for _, count := range [][]byte{
		{2}, {0}, {252},
		{253}, {253, 1}, {253, 0, 0}, {253, 1, 0}, {253, 252, 0},
		{254, 1, 0, 0, 0}, {254, 0, 0, 1, 0}, {254, 255, 255, 255, 255}, {254, 1},
		{255}, {255, 1, 0, 0, 0, 0, 0, 0, 0}, {255, 255, 255, 255, 255, 255, 255, 255, 255}, {255, 0, 0, 0, 0, 0, 0, 0, 128},
		laid(api.MaxList), laid(api.MaxList + 1),
	} {
		checkRefused(t, "with a wrong count", slices.Concat(head, count, one), api.ErrForm)
	}
	checkDecode(t, "with its count", slices.Concat(head, []byte{1}, one), Block{Head: sampleHead(), Txs: []tx.Tx{coinbase("x")}}, api.OK)
	for _, count := range [][]byte{{253}, {253, 0}, {254, 0, 0, 1}, {255, 0, 0, 0, 0, 0, 0, 0}, {253, 0, 0}, {1}} {
		checkRefused(t, "with a count alone", slices.Concat(head, count), api.ErrForm)
	}

	x := rooted(spends(api.MaxList)...)
	x.Txs = x.Txs[:api.MaxList]
	checkDecode(t, "of MaxList", blockBytes(t, x), x, api.OK)
	x = rooted(spends(api.MaxList)...)
	checkRefused(t, "of more than MaxList", blockBytes(t, x), api.ErrForm)
}

// P8.4: transactions that layer 7 doesn't decode, whatever its own error is.
func TestDecodeWrong(t *testing.T) {
	head := headBytes(sampleHead())
	one, _ := coinbase("x").Encode()
	two, _ := signed(1).Encode()
	for what, part := range map[string][]byte{
		"no Ins":         {1, 0, 0, 0, 0, 0, 0, 0, 0, 0},
		"told witnesses": slices.Concat([]byte{1, 0, 0, 0, 0, 1}, one[4:len(one)-4], []byte{0}, one[len(one)-4:]),
		"a long count":   slices.Concat(one[:4], []byte{253, 1, 0}, one[5:]),
		"a long text":    slices.Concat(one[:41], []byte{253, 17, 39}, make([]byte, 20000)),
		"cut":            one[:len(one)-1],
	} {
		checkRefused(t, "first: "+what, slices.Concat(head, []byte{2}, part, two), api.ErrForm)
		checkRefused(t, "last: "+what, slices.Concat(head, []byte{2}, two, part), api.ErrForm)
	}
	// Above MaxTx by a byte, and nothing else wrong with it.
	long := sized(t, 1, api.MaxTx)
	raw, _ := long.Encode()
	script := len(long.Outs[0].Script)
	at := bytes.Index(raw, []byte(long.Outs[0].Script))
	longer := slices.Concat(raw[:at-2], []byte{byte(script + 1), byte((script + 1) >> 8)}, []byte("o"), raw[at:])
	checkDecode(t, "of MaxTx", slices.Concat(head, []byte{2}, raw, one), Block{Head: sampleHead(), Txs: []tx.Tx{long, coinbase("x")}}, api.OK)
	checkRefused(t, "of more than MaxTx", slices.Concat(head, []byte{2}, longer, one), api.ErrForm)
	checkRefused(t, "of more than MaxTx at the end", slices.Concat(head, []byte{2}, one, longer), api.ErrForm)
}

// P8.4: bytes that are turned are another block, in its one form, or none.
func TestDecodeTurned(t *testing.T) {
	x := rooted(coinbase("one"), spend(1), signed(2))
	b := blockBytes(t, x)
	for i := range b {
		for _, by := range []byte{1, 2, 128, 255} {
			turned := bytes.Clone(b)
			turned[i] ^= by
			y, e := Decode(turned)
			if e == api.ErrForm && y.Head == (Header{}) && y.Txs == nil {
				continue
			}
			again, f := y.Encode()
			if e != api.OK || f != api.OK || !bytes.Equal(again, turned) {
				t.Errorf("byte %d by %d: %d, %d", i, by, e, f)
			}
		}
	}
}

// P8.4: answers share no memory with each other.
func TestDecodeShares(t *testing.T) {
	x := rooted(signed(1), signed(2), spend(3))
	b := blockBytes(t, x)
	y, _ := Decode(b)
	for i := range y.Txs {
		one := &y.Txs[i]
		one.Ins = append(one.Ins, tx.In{Seq: 77})
		one.Outs = append(one.Outs, tx.Out{Coins: 77})
		one.Ins[0].Witness = append(one.Ins[0].Witness, "more")
		one.Ins[0].Seq, one.Outs[0].Coins = 78, 78
	}
	for i, one := range y.Txs {
		had := x.Txs[i]
		if len(one.Ins) != len(had.Ins)+1 || len(one.Outs) != len(had.Outs)+1 || len(one.Ins[0].Witness) != len(had.Ins[0].Witness)+1 {
			t.Errorf("transaction %d shares memory with another", i)
		}
	}
	checkDecode(t, "once more", b, x, api.OK)
}

// P8.1, P8.3, P8.4: the first block of Bitcoin's own chain.
func TestKnown(t *testing.T) {
	raw, _ := hex.DecodeString("01000000" + "0000000000000000000000000000000000000000000000000000000000000000" +
		"3ba3edfd7a7b12b27ac72c3e67768f617fc81bc3888a51323a9fb8aa4b1e5e4a" + "29ab5f49" + "ffff001d" + "1dac2b7c" + "01" +
		"01000000" + "01" + "0000000000000000000000000000000000000000000000000000000000000000" + "ffffffff" +
		"4d04ffff001d0104455468652054696d65732030332f4a616e2f32303039204368616e63656c6c6f72206f6e206272696e6b206f66207365636f6e64206261696c6f757420666f722062616e6b73" +
		"ffffffff" + "01" + "00f2052a01000000" +
		"434104678afdb0fe5548271967f1a67130b7105cd6a828e03909a67962e0ea1f61deb649f6bc3f4cef38c4f35504e51ec112de5c384df7ba0b8d578a4c702b6bf11d5fac" +
		"00000000")
	b, e := Decode(raw)
	if e != api.OK || len(b.Txs) != 1 || b.Head.Version != 1 || b.Head.Time != 1231006505 || b.Head.Bits != 0x1d00ffff || b.Head.Nonce != 2083236893 {
		t.Fatalf("Decode: %v, %d", b.Head, e)
	}
	if e := b.Check(); e != api.OK {
		t.Errorf("Check: %d", e)
	}
	if id := b.Head.Id(); id != shown("000000000019d6689c085ae165831e934ff763ae46a2a6c172b3f1b60a8ce26f") {
		t.Errorf("Id: %x", id)
	}
	if again, e := b.Encode(); e != api.OK || !bytes.Equal(again, raw) {
		t.Errorf("Encode: %x, %d", again, e)
	}
}
