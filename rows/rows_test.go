package rows

import (
	"bytes"
	"encoding/binary"
	"encoding/hex"
	"math"
	"strings"
	"testing"

	"tailrace/api"
	"tailrace/tx"
)

// must holds an answer against what it must be.
func must[T comparable](t *testing.T, what string, got, want T) {
	t.Helper()
	if got != want {
		t.Errorf("%s: %v, want %v", what, got, want)
	}
}

// dice is numbers that look like chance, the same ones each time.
type dice uint64

func (d *dice) roll(n int) int {
	*d = *d*6364136223846793005 + 1442695040888963407
	return int(uint64(*d>>33) % uint64(n))
}

func (d *dice) hash() api.Hash {
	var h api.Hash
	for i := range h {
		h[i] = byte(d.roll(256))
	}
	return h
}

// big is numbers as the document lays them.
func big(list ...int) string {
	var b []byte
	for _, n := range list {
		b = binary.BigEndian.AppendUint32(b, uint32(n))
	}
	return string(b)
}

// counting is a digest whose bytes count from one on.
func counting(from byte) api.Hash {
	var h api.Hash
	for i := range h {
		h[i] = from + byte(i)
	}
	return h
}

func text(h api.Hash) string {
	return string(h[:])
}

// edges is numbers at which a byte begins or ends, up to the last that a row holds.
func edges() []int {
	return []int{0, 1, 2, 127, 128, 255, 256, 257, 65535, 65536, 1<<24 - 1, 1 << 24, MostHeight - 1, MostHeight, MostHeight + 1, 1<<31 - 1, 1 << 31, 1<<32 - 2, 1<<32 - 1}
}

// beyond is numbers that a row doesn't hold: their lowest 32 bits stand there.
func beyond() map[int]int {
	return map[int]int{
		-1: 1<<32 - 1, -2: 1<<32 - 2, -1 << 31: 1 << 31, -1 << 32: 0, -1<<32 - 1: 1<<32 - 1,
		1 << 32: 0, 1<<32 + 7: 7, math.MinInt: 0, math.MaxInt: 1<<32 - 1,
	}
}

// P18.1: the bound of heights.
func TestMostHeight(t *testing.T) {
	must(t, "MostHeight", MostHeight, 1073741824)
}

// P18.1: each key written out.
func TestKeys(t *testing.T) {
	id := counting(1)
	idHex := "0102030405060708090a0b0c0d0e0f101112131415161718191a1b1c1d1e1f20"
	p := tx.Point{Id: id, Out: 0xa1a2a3a4}
	for _, c := range []struct{ what, got, want string }{
		{"Tip", Tip(), "6d"},
		{"Low", Low(), "77"},
		{"Head", Head(0x01020304), "62" + "01020304"},
		{"Tx", Tx(id), "74" + idHex},
		{"Pos", Pos(0x01020304, 0x05060708), "70" + "01020304" + "05060708"},
		{"Hist", Hist(id, 0x01020304, 0x05060708), "68" + idHex + "01020304" + "05060708"},
		{"Hists", Hists(id), "68" + idHex},
		{"Unspent", Unspent(id, tx.Point{Id: counting(0xe0), Out: 5}), "75" + idHex + hex.EncodeToString([]byte(text(counting(0xe0)))) + "00000005"},
		{"Unspents", Unspents(id), "75" + idHex},
		{"Out", Out(p), "63" + idHex + "a1a2a3a4"},
		{"Outs", Outs(id), "63" + idHex},
		{"Spent", Spent(p), "73" + idHex + "a1a2a3a4"},
		{"Undo", Undo(0x01020304, 0x05060708, 0x090a0b0c), "72" + "01020304" + "05060708" + "090a0b0c"},
		{"Undos", Undos(0x01020304), "72" + "01020304"},
	} {
		must(t, c.what, hex.EncodeToString([]byte(c.got)), c.want)
	}
}

// P18.1: each row written out.
func TestRows(t *testing.T) {
	id := counting(1)
	idHex := hex.EncodeToString(id[:])
	c := Coin{Coins: 0x0102030405060708, Script: id, Height: 0x11121314, Pos: 0x15161718}
	coinHex := "0102030405060708" + idHex + "11121314" + "15161718"
	for _, x := range []struct{ what, got, want string }{
		{"Number", Number(0x01020304), "01020304"},
		{"a coin", c.Row(), coinHex},
		{"no coin", Coin{}.Row(), strings.Repeat("00", 48)},
		{"a coin below 0", Coin{Coins: -2}.Row(), "fffffffffffffffe" + strings.Repeat("00", 40)},
		{"the least coin", Coin{Coins: math.MinInt64}.Row(), "80" + strings.Repeat("00", 47)},
		{"a spender", Spend{By: id, In: 0x01020304, Height: 0x05060708}.Row(), idHex + "01020304" + "05060708"},
		{"no spender", Spend{}.Row(), strings.Repeat("00", 40)},
		{"an undo", UndoRow(tx.Point{Id: counting(2), Out: 0xf1f2f3f4}, c), hex.EncodeToString([]byte(text(counting(2)))) + "f1f2f3f4" + coinHex},
		{"a transaction", TxRow(0x01020304, 0x05060708, []byte("\xab\x00")), "01020304" + "05060708" + "ab00"},
		{"a transaction of nothing", TxRow(1, 2, nil), "00000001" + "00000002"},
	} {
		must(t, x.what, hex.EncodeToString([]byte(x.got)), x.want)
	}
}

// P18.1: of each number its lowest 32 bits are laid, in keys and rows.
func TestNumbersLaid(t *testing.T) {
	all := beyond()
	for _, n := range edges() {
		all[n] = n
	}
	h := counting(3)
	for n, low := range all {
		for _, c := range []struct{ what, got, want string }{
			{"Number", Number(n), big(low)},
			{"Head", Head(n), "b" + big(low)},
			{"Pos, height", Pos(n, 5), "p" + big(low, 5)},
			{"Pos, pos", Pos(5, n), "p" + big(5, low)},
			{"Hist, height", Hist(h, n, 5), "h" + text(h) + big(low, 5)},
			{"Hist, pos", Hist(h, 5, n), "h" + text(h) + big(5, low)},
			{"Undo, height", Undo(n, 5, 6), "r" + big(low, 5, 6)},
			{"Undo, pos", Undo(5, n, 6), "r" + big(5, low, 6)},
			{"Undo, in", Undo(5, 6, n), "r" + big(5, 6, low)},
			{"Undos", Undos(n), "r" + big(low)},
			{"Coin, height", Coin{Height: n, Pos: 5}.Row()[40:], big(low, 5)},
			{"Coin, pos", Coin{Height: 5, Pos: n}.Row()[40:], big(5, low)},
			{"Spend, in", Spend{In: n, Height: 5}.Row()[32:], big(low, 5)},
			{"Spend, height", Spend{In: 5, Height: n}.Row()[32:], big(5, low)},
			{"TxRow, height", TxRow(n, 5, []byte("x")), big(low, 5) + "x"},
			{"TxRow, pos", TxRow(5, n, []byte("x")), big(5, low) + "x"},
			{"UndoRow, height", UndoRow(tx.Point{}, Coin{Height: n})[76:80], big(low)},
			{"UndoRow, pos", UndoRow(tx.Point{}, Coin{Pos: n})[80:], big(low)},
		} {
			if c.got != c.want {
				t.Errorf("%s of %d: %x, want %x", c.what, n, c.got, c.want)
			}
		}
	}
}

// P18.1: what all keys of a kind begin with, and no other key does.
func TestBeginnings(t *testing.T) {
	a, b := counting(1), counting(2)
	for _, c := range []struct{ what, key, begin string }{
		{"Hist", Hist(a, 7, 8), Hists(a)},
		{"Unspent", Unspent(a, tx.Point{Id: b, Out: 9}), Unspents(a)},
		{"Out", Out(tx.Point{Id: a, Out: 9}), Outs(a)},
		{"Undo", Undo(7, 8, 9), Undos(7)},
	} {
		if !strings.HasPrefix(c.key, c.begin) {
			t.Errorf("%s doesn't begin so", c.what)
		}
	}
	point := tx.Point{Id: a, Out: 9}
	others := []string{
		Tip(), Low(), Head(7), Tx(a), Pos(7, 8), Spent(point),
		Hist(b, 7, 8), Unspent(b, point), Out(tx.Point{Id: b, Out: 9}), Undo(8, 7, 7), Undo(6, 7, 7), Undo(1<<24*7, 7, 7),
	}
	for _, begin := range []string{Hists(a), Unspents(a), Outs(a), Undos(7)} {
		for _, k := range others {
			if strings.HasPrefix(k, begin) {
				t.Errorf("%x begins with %x", k, begin)
			}
		}
	}
	// No two kinds are mixed up, whatever stands in them.
	all := []string{Tip(), Low(), Head(0), Tx(a), Pos(0, 0), Hist(a, 0, 0), Unspent(a, point), Out(point), Spent(point), Undo(0, 0, 0)}
	for i, k := range all {
		for j, other := range all {
			if i != j && strings.HasPrefix(k, other[:1]) {
				t.Errorf("kinds %d and %d begin with one byte", i, j)
			}
		}
	}
}

// P18.1: keys of one kind stand in the order of their numbers.
func TestOrder(t *testing.T) {
	h, list := counting(5), edges()
	for i, x := range list {
		for j, y := range list {
			for _, c := range []struct {
				what string
				a, b string
			}{
				{"Number", Number(x), Number(y)},
				{"Head", Head(x), Head(y)},
				{"Pos, height", Pos(x, list[len(list)-1-i]), Pos(y, list[len(list)-1-j])},
				{"Pos, pos", Pos(7, x), Pos(7, y)},
				{"Hist, height", Hist(h, x, list[len(list)-1-i]), Hist(h, y, list[len(list)-1-j])},
				{"Hist, pos", Hist(h, 7, x), Hist(h, 7, y)},
				{"Unspent", Unspent(h, tx.Point{Out: uint32(x)}), Unspent(h, tx.Point{Out: uint32(y)})},
				{"Out", Out(tx.Point{Id: h, Out: uint32(x)}), Out(tx.Point{Id: h, Out: uint32(y)})},
				{"Spent", Spent(tx.Point{Id: h, Out: uint32(x)}), Spent(tx.Point{Id: h, Out: uint32(y)})},
				{"Undo, height", Undo(x, 9, list[len(list)-1-i]), Undo(y, 9, list[len(list)-1-j])},
				{"Undo, pos", Undo(7, x, list[len(list)-1-i]), Undo(7, y, list[len(list)-1-j])},
				{"Undo, in", Undo(7, 8, x), Undo(7, 8, y)},
				{"Undos", Undos(x), Undos(y)},
			} {
				if strings.Compare(c.a, c.b) != compare(i, j) {
					t.Errorf("%s of %d and %d", c.what, x, y)
				}
			}
		}
	}
}

func compare(i, j int) int {
	switch {
	case i < j:
		return -1
	case i > j:
		return 1
	}
	return 0
}

// parsed asks each Parse of a text, and tells the errors; what it must be besides is asked too.
type parsed struct {
	what  string
	size  int
	parse func(t *testing.T, s string) api.Errno
}

// all is each Parse, how many bytes it asks for, and that nothing is answered beside its error.
func all() []parsed {
	return []parsed{
		{"ParseNumber", 4, func(t *testing.T, s string) api.Errno {
			n, e := ParseNumber(s)
			must(t, "ParseNumber beside an error", e != api.OK && n != 0, false)
			return e
		}},
		{"ParseCoin", 48, func(t *testing.T, s string) api.Errno {
			c, e := ParseCoin(s)
			must(t, "ParseCoin beside an error", e != api.OK && c != Coin{}, false)
			return e
		}},
		{"ParseSpend", 40, func(t *testing.T, s string) api.Errno {
			x, e := ParseSpend(s)
			must(t, "ParseSpend beside an error", e != api.OK && x != Spend{}, false)
			return e
		}},
		{"ParseUndo", 84, func(t *testing.T, s string) api.Errno {
			p, c, e := ParseUndo(s)
			must(t, "ParseUndo beside an error", e != api.OK && (p != tx.Point{} || c != Coin{}), false)
			return e
		}},
		{"ParsePlace", 41, func(t *testing.T, s string) api.Errno {
			height, pos, e := ParsePlace(s)
			must(t, "ParsePlace beside an error", e != api.OK && (height != 0 || pos != 0), false)
			return e
		}},
		{"ParseHash", 32, func(t *testing.T, s string) api.Errno {
			h, e := ParseHash(s)
			must(t, "ParseHash beside an error", e != api.OK && h != api.Hash{}, false)
			return e
		}},
		{"ParsePoint from 0", 36, pointFrom(0)},
		{"ParsePoint from 1", 37, pointFrom(1)},
		{"ParsePoint from 33", 69, pointFrom(33)},
	}
}

func pointFrom(from int) func(t *testing.T, s string) api.Errno {
	return func(t *testing.T, s string) api.Errno {
		p, e := ParsePoint(s, from)
		must(t, "ParsePoint beside an error", e != api.OK && p != tx.Point{}, false)
		return e
	}
}

// P18.2: each Parse takes its number of bytes, and no other.
func TestParseSizes(t *testing.T) {
	sizes := []int{1000, 1 << 16, 1 << 20}
	for n := range 200 {
		sizes = append(sizes, n)
	}
	for _, p := range all() {
		for _, n := range sizes {
			want := api.ErrBad
			if n == p.size {
				want = api.OK
			}
			for _, fill := range []string{"\x00", "h", "\xff"} {
				if e := p.parse(t, strings.Repeat(fill, n)); e != want {
					t.Errorf("%s of %d bytes: %d, want %d", p.what, n, e, want)
				}
			}
		}
	}
}

// P18.2: a transaction's row has 8 bytes at least.
func TestParseTxSizes(t *testing.T) {
	for n := range 100 {
		s := strings.Repeat("\x81", n)
		height, pos, b, e := ParseTx(s)
		if n < 8 {
			if height != 0 || pos != 0 || b != nil || e != api.ErrBad {
				t.Errorf("%d bytes: %d, %d, %x, %d", n, height, pos, b, e)
			}
			continue
		}
		if height != 0x81818181 || pos != 0x81818181 || string(b) != s[8:] || e != api.OK {
			t.Errorf("%d bytes: %d, %d, %x, %d", n, height, pos, b, e)
		}
	}
	// As long as a store's row may be.
	b := bytes.Repeat([]byte("x"), api.MaxVal-8)
	if _, _, got, e := ParseTx(TxRow(1, 2, b)); !bytes.Equal(got, b) || e != api.OK {
		t.Error("a long transaction", len(got), e)
	}
}

// P18.2: a point is asked for where k ends with it, and nowhere else.
func TestParsePointFrom(t *testing.T) {
	p := tx.Point{Id: counting(9), Out: 0xfefdfcfb}
	for _, k := range []string{Out(p), Spent(p), Unspent(counting(1), p)} {
		right := len(k) - 36
		for from := -100; from < 200; from++ {
			got, e := ParsePoint(k, from)
			if from == right && (got != p || e != api.OK) {
				t.Errorf("from %d: %v, %d", from, got, e)
			}
			if from != right && (got != tx.Point{} || e != api.ErrBad) {
				t.Errorf("from %d: %v, %d", from, got, e)
			}
		}
		for _, from := range []int{math.MinInt, math.MinInt + 35, math.MinInt + 36, -36, math.MaxInt, math.MaxInt - 35, math.MaxInt - 36, 1 << 32, right + 1<<32} {
			if got, e := ParsePoint(k, from); got != (tx.Point{}) || e != api.ErrBad {
				t.Errorf("from %d: %v, %d", from, got, e)
			}
		}
	}
	// Where 36 bytes would begin ahead of k.
	for n := range 36 {
		if got, e := ParsePoint(strings.Repeat("x", n), n-36); got != (tx.Point{}) || e != api.ErrBad {
			t.Errorf("%d bytes: %v, %d", n, got, e)
		}
	}
	for _, k := range []string{Unspents(counting(1)), Outs(counting(1)), Tip(), ""} {
		if _, e := ParsePoint(k, 1); e != api.ErrBad {
			t.Errorf("%x: %d", k, e)
		}
	}
}

// checkAgain holds all that is laid of some numbers, coins and digests against what is parsed of it.
func checkAgain(t *testing.T, coins int64, a, b api.Hash, x, y int) {
	t.Helper()
	p := tx.Point{Id: b, Out: uint32(y)}
	c := Coin{Coins: coins, Script: a, Height: x, Pos: y}
	n, e := ParseNumber(Number(x))
	must(t, "a number", n, x)
	must(t, "a number's error", e, api.OK)
	gotCoin, e := ParseCoin(c.Row())
	must(t, "a coin", gotCoin, c)
	must(t, "a coin's error", e, api.OK)
	s := Spend{By: a, In: x, Height: y}
	gotSpend, e := ParseSpend(s.Row())
	must(t, "a spender", gotSpend, s)
	must(t, "a spender's error", e, api.OK)
	gotPoint, gotCoin, e := ParseUndo(UndoRow(p, c))
	must(t, "an undo's point", gotPoint, p)
	must(t, "an undo's coin", gotCoin, c)
	must(t, "an undo's error", e, api.OK)
	height, pos, e := ParsePlace(Hist(a, x, y))
	must(t, "a height", height, x)
	must(t, "a place", pos, y)
	must(t, "a place's error", e, api.OK)
	for _, k := range []string{Out(p), Spent(p), Unspent(a, p)} {
		gotPoint, e = ParsePoint(k, len(k)-36)
		must(t, "a point", gotPoint, p)
		must(t, "a point's error", e, api.OK)
	}
	h, e := ParseHash(text(a))
	must(t, "a digest", h, a)
	must(t, "a digest's error", e, api.OK)
	raw := []byte(text(b))[:y%33]
	height, pos, got, e := ParseTx(TxRow(x, y, raw))
	must(t, "a transaction's height", height, x)
	must(t, "a transaction's place", pos, y)
	must(t, "a transaction", string(got), string(raw))
	must(t, "a transaction's error", e, api.OK)
}

// P18.2: what is laid is parsed as it was, at each edge.
func TestAgainAtEdges(t *testing.T) {
	coins := []int64{0, 1, 255, 256, 1 << 32, api.MaxCoins, api.MaxCoins + 1, math.MaxInt64, -1, -256, math.MinInt64}
	for i, x := range edges() {
		for j, y := range edges() {
			checkAgain(t, coins[(i+j)%len(coins)], counting(byte(i)), counting(byte(100+j)), x, y)
		}
	}
}

// P18.2: what is laid is parsed as it was, whatever it is.
func TestAgain(t *testing.T) {
	d := dice(1)
	for range 2000 {
		coins := int64(d.roll(1<<31))<<33 ^ int64(d.roll(1<<31))
		checkAgain(t, coins, d.hash(), d.hash(), d.roll(1<<31)*2+d.roll(2), d.roll(1<<31)*2+d.roll(2))
	}
}

// P18.2: of numbers beyond 32 bits the lowest ones are parsed.
func TestAgainBeyond(t *testing.T) {
	for n, low := range beyond() {
		c, _ := ParseCoin(Coin{Height: n, Pos: n}.Row())
		must(t, "a coin", c, Coin{Height: low, Pos: low})
		x, _ := ParseSpend(Spend{In: n, Height: n}.Row())
		must(t, "a spender", x, Spend{In: low, Height: low})
		height, pos, _ := ParsePlace(Hist(api.Hash{}, n, n))
		must(t, "a height", height, low)
		must(t, "a place", pos, low)
	}
}

// P18.2: each byte of a row tells.
func TestEachByteTells(t *testing.T) {
	c := Coin{Coins: 1 << 40, Script: counting(1), Height: 7, Pos: 8}
	x := Spend{By: counting(2), In: 3, Height: 4}
	p := tx.Point{Id: counting(3), Out: 5}
	for _, row := range []string{c.Row(), x.Row(), UndoRow(p, c), Number(9), Hist(counting(1), 2, 3)[33:]} {
		for i := range row {
			b := []byte(row)
			b[i] ^= 0x80
			if again := laidAgain(string(b)); again != string(b) {
				t.Errorf("%x is laid again as %x", b, again)
			}
		}
	}
}

// laidAgain is a row parsed and laid, of the kind that has its number of bytes.
func laidAgain(s string) string {
	switch len(s) {
	case 4:
		n, _ := ParseNumber(s)
		return Number(n)
	case 8:
		height, pos, _ := ParsePlace(Hists(api.Hash{}) + s)
		return Hist(api.Hash{}, height, pos)[33:]
	case 40:
		x, _ := ParseSpend(s)
		return x.Row()
	case 48:
		c, _ := ParseCoin(s)
		return c.Row()
	}
	p, c, _ := ParseUndo(s)
	return UndoRow(p, c)
}

// P18.1, P18.2: what is handed in is neither changed nor kept, and what is answered is new.
func TestRowsShareNothing(t *testing.T) {
	room := []byte("abcdef")
	b := room[:3]
	row := TxRow(1, 2, b)
	must(t, "what is handed in", string(room), "abcdef")
	b[0] = 'x'
	must(t, "a row", row, big(1, 2)+"abc")
	_, _, one, _ := ParseTx(row)
	_, _, two, _ := ParseTx(row)
	one[0] = 'y'
	one = append(one, 'z')
	must(t, "another answer", string(two), "abc")
	must(t, "the row", row, big(1, 2)+"abc")
	x := Spend{By: counting(1)}
	had := x
	x.Row()
	must(t, "a spender", x, had)
	h := counting(1)
	for _, f := range []func(api.Hash) string{Tx, Hists, Unspents, Outs} {
		f(h)
	}
	must(t, "a digest", h, counting(1))
}
