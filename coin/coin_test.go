package coin

import (
	"bytes"
	"crypto/sha256"
	"math"
	"math/big"
	"slices"
	"strings"
	"testing"

	"tailrace/api"
	"tailrace/block"
	"tailrace/rows"
	"tailrace/tx"
)

// must holds an answer against what it must be.
func must[T comparable](t *testing.T, what string, got, want T) {
	t.Helper()
	if got != want {
		t.Errorf("%s: %v, want %v", what, got, want)
	}
}

// dice is numbers that look like chance, the same ones each time.
type dice uint64

func (d *dice) roll(n int) int {
	*d = *d*6364136223846793005 + 1442695040888963407
	return int(uint64(*d>>33) % uint64(n))
}

// first is a transaction that makes coins; text makes it one of its own.
func first(text string, coins ...int64) tx.Tx {
	return tx.Tx{Ins: []tx.In{{From: tx.Nowhere(), Script: text}}, Outs: outs(coins)}
}

// outs is outputs of so many coins, for a, b, and so on.
func outs(coins []int64) []tx.Out {
	var list []tx.Out
	for i, n := range coins {
		list = append(list, tx.Out{Coins: n, Script: string(rune('a' + i%26))})
	}
	return list
}

// pay is a transaction that spends outputs.
func pay(from []tx.Point, coins ...int64) tx.Tx {
	t := tx.Tx{Version: 2, Outs: outs(coins)}
	for _, p := range from {
		t.Ins = append(t.Ins, tx.In{From: p})
	}
	return t
}

// rooted is a block of transactions, with their root.
func rooted(txs ...tx.Tx) block.Block {
	b := block.Block{Txs: txs}
	b.Head.Root = block.Root(b.Ids())
	return b
}

// elder is an output of a block that isn't told.
func elder(n int) tx.Point {
	return tx.Point{Id: api.Hash{0: byte(n), 1: byte(n >> 8), 31: 0xee}, Out: uint32(n)}
}

func points(list ...int) []tx.Point {
	var all []tx.Point
	for _, n := range list {
		all = append(all, elder(n))
	}
	return all
}

// elders is a set of outputs from elder(0) on, of so many coins.
func elders(coins ...int64) Set {
	s := Set{}
	for i, n := range coins {
		s[elder(i)] = rows.Coin{Coins: n, Script: Script("elder"), Height: i, Pos: i + 1}
	}
	return s
}

// told is a view whose answers are functions; where there is none, all is well.
type told struct {
	coin func(p tx.Point) (rows.Coin, bool, api.Errno)
	open func(id api.Hash) (bool, api.Errno)
}

func (v told) Coin(p tx.Point) (rows.Coin, bool, api.Errno) {
	if v.coin == nil {
		return rows.Coin{}, false, api.OK
	}
	return v.coin(p)
}

func (v told) Open(id api.Hash) (bool, api.Errno) {
	if v.open == nil {
		return false, api.OK
	}
	return v.open(id)
}

func same(x, y Diff) bool {
	return slices.Equal(x.Ids, y.Ids) && slices.Equal(x.Uses, y.Uses) && slices.Equal(x.Makes, y.Makes) && x.Fees == y.Fees
}

func none(d Diff) bool {
	return len(d.Ids) == 0 && len(d.Uses) == 0 && len(d.Makes) == 0 && d.Fees == 0
}

// plain is Plan as the document tells it, by going through lists, and in numbers without a bound.
func plain(b block.Block, height int, v View) (Diff, api.Errno) {
	if v == nil || height < 0 || height > 1<<30 {
		return Diff{}, api.ErrArg
	}
	if e := b.Check(); e != api.OK {
		return Diff{}, e
	}
	var d Diff
	most, fees := big.NewInt(2100000000000000), new(big.Int)
	for pos, t := range b.Txs {
		if no, e := v.Open(t.Id()); e != api.OK {
			return Diff{}, e
		} else if no {
			return Diff{}, api.ErrTwice
		}
		d.Ids = append(d.Ids, t.Id())
		if pos > 0 {
			rest := new(big.Int)
			for i, in := range t.Ins {
				var c rows.Coin
				at := slices.IndexFunc(d.Makes, func(m Made) bool { return m.At == in.From })
				if at >= 0 {
					c = d.Makes[at].Coin
				} else {
					var ok bool
					var e api.Errno
					if c, ok, e = v.Coin(in.From); e != api.OK {
						return Diff{}, e
					} else if !ok {
						return Diff{}, api.ErrSpent
					}
				}
				if slices.ContainsFunc(d.Uses, func(u Use) bool { return u.From == in.From }) {
					return Diff{}, api.ErrSpent
				}
				d.Uses = append(d.Uses, Use{Pos: pos, In: i, From: in.From, Coin: c})
				if rest.Add(rest, big.NewInt(c.Coins)); rest.Cmp(most) > 0 {
					return Diff{}, api.ErrCoins
				}
			}
			for _, out := range t.Outs {
				rest.Sub(rest, big.NewInt(out.Coins))
			}
			if fees.Add(fees, rest); rest.Sign() < 0 || fees.Cmp(most) > 0 {
				return Diff{}, api.ErrCoins
			}
		}
		for i, out := range t.Outs {
			c := rows.Coin{Coins: out.Coins, Script: sha256.Sum256([]byte(out.Script)), Height: height, Pos: pos}
			d.Makes = append(d.Makes, Made{At: tx.Point{Id: t.Id(), Out: uint32(i)}, Coin: c})
		}
	}
	d.Fees = fees.Int64()
	return d, api.OK
}

// check holds Plan against plain, and tells what Plan answered.
func check(t *testing.T, what string, b block.Block, height int, v View) (Diff, api.Errno) {
	t.Helper()
	d, e := Plan(b, height, v)
	want, wantE := plain(b, height, v)
	if e != wantE || !same(d, want) {
		t.Errorf("%s: %v, %d, want %v, %d", what, d, e, want, wantE)
	}
	if e != api.OK && !none(d) {
		t.Errorf("%s: %v beside an error", what, d)
	}
	return d, e
}

// P19.1: a script is known by the digest of its bytes.
func TestScript(t *testing.T) {
	for _, s := range []string{"", "a", "abc", "\x00", "\xff\xfe", strings.Repeat("long", 10000)} {
		must(t, "Script", Script(s), api.Hash(sha256.Sum256([]byte(s))))
	}
}

// P19.1: a block that spends an output of its own, and one of an elder block, written out.
func TestPlan(t *testing.T) {
	one := first("one", 50, 20)
	own := tx.Point{Id: one.Id(), Out: 0}
	two := pay([]tx.Point{elder(0), own}, 30, 25)
	three := pay([]tx.Point{{Id: two.Id(), Out: 1}}, 20)
	d, e := check(t, "Plan", rooted(one, two, three), 7, elders(10, 99))
	must(t, "the error", e, api.OK)
	coin := func(coins int64, script string, pos int) rows.Coin {
		return rows.Coin{Coins: coins, Script: sha256.Sum256([]byte(script)), Height: 7, Pos: pos}
	}
	want := Diff{
		Ids: []api.Hash{one.Id(), two.Id(), three.Id()},
		Uses: []Use{
			{Pos: 1, In: 0, From: elder(0), Coin: rows.Coin{Coins: 10, Script: sha256.Sum256([]byte("elder")), Height: 0, Pos: 1}},
			{Pos: 1, In: 1, From: own, Coin: coin(50, "a", 0)},
			{Pos: 2, In: 0, From: tx.Point{Id: two.Id(), Out: 1}, Coin: coin(25, "b", 1)},
		},
		Makes: []Made{
			{At: own, Coin: coin(50, "a", 0)},
			{At: tx.Point{Id: one.Id(), Out: 1}, Coin: coin(20, "b", 0)},
			{At: tx.Point{Id: two.Id(), Out: 0}, Coin: coin(30, "a", 1)},
			{At: tx.Point{Id: two.Id(), Out: 1}, Coin: coin(25, "b", 1)},
			{At: tx.Point{Id: three.Id(), Out: 0}, Coin: coin(20, "a", 2)},
		},
		Fees: 10,
	}
	if !same(d, want) {
		t.Errorf("%v, want %v", d, want)
	}
}

// P19.1: v must be there, and the height in its bounds; both are asked ahead of all else.
func TestPlanArguments(t *testing.T) {
	b := rooted(first("one", 5))
	for _, height := range []int{0, 1, 1<<30 - 1, 1 << 30} {
		d, e := check(t, "a height", b, height, Set{})
		if e != api.OK || d.Makes[0].Coin.Height != height {
			t.Errorf("height %d: %v, %d", height, d, e)
		}
	}
	down := told{open: func(api.Hash) (bool, api.Errno) { return false, api.ErrDown }}
	for _, height := range []int{-1, math.MinInt, 1<<30 + 1, 1 << 32, math.MaxInt} {
		for _, wrong := range []block.Block{b, {}} {
			for _, v := range []View{nil, Set{}, down} {
				_, e := check(t, "a height out of its bounds", wrong, height, v)
				must(t, "its error", e, api.ErrArg)
			}
		}
	}
	for _, wrong := range []block.Block{b, {}} {
		_, e := check(t, "no view", wrong, 0, nil)
		must(t, "its error", e, api.ErrArg)
	}
	// A Set that is nil is a view of nothing.
	_, e := check(t, "a nil Set", b, 0, Set(nil))
	must(t, "its error", e, api.OK)
	_, e = check(t, "a nil Set", rooted(first("one", 5), pay(points(0), 0)), 0, Set(nil))
	must(t, "its error", e, api.ErrSpent)
}

// P19.1: what is wrong with a block by itself is told ahead of what the view tells.
func TestPlanChecks(t *testing.T) {
	one := first("one", 5)
	unrooted := rooted(one)
	unrooted.Head.Root[0] ^= 1
	down := told{
		coin: func(tx.Point) (rows.Coin, bool, api.Errno) { return rows.Coin{}, false, api.ErrDown },
		open: func(api.Hash) (bool, api.Errno) { return true, api.ErrDown },
	}
	for _, x := range []struct {
		what string
		b    block.Block
		e    api.Errno
	}{
		{"nothing", block.Block{}, api.ErrForm},
		{"no first", rooted(pay(points(0), 1)), api.ErrForm},
		{"two firsts", rooted(one, first("two", 5)), api.ErrForm},
		{"a transaction without outs", rooted(one, pay(points(0))), api.ErrForm},
		{"coins below 0", rooted(one, pay(points(0), -1)), api.ErrCoins},
		{"coins above the bound", rooted(first("one", api.MaxCoins, 1)), api.ErrCoins},
		{"one twice", rooted(one, pay(points(0), 1), pay(points(0), 1)), api.ErrTwice},
		{"another root", unrooted, api.ErrRoot},
	} {
		for _, v := range []View{down, elders(5), Set{}} {
			_, e := check(t, x.what, x.b, 1, v)
			must(t, x.what, e, x.e)
		}
	}
}

// P19.1: each thing that is wrong in what a block spends, and what is right beside it.
func TestPlanErrors(t *testing.T) {
	most := int64(api.MaxCoins)
	one := first("one", 50, 20)
	id := one.Id()
	own := func(n uint32) tx.Point { return tx.Point{Id: id, Out: n} }
	list := func(p ...tx.Point) []tx.Point { return p }
	mid := pay(list(own(0)), 45)
	of := func(x tx.Tx, n uint32) tx.Point { return tx.Point{Id: x.Id(), Out: n} }
	for _, x := range []struct {
		what string
		txs  []tx.Tx
		view Set
		e    api.Errno
	}{
		{"first alone", []tx.Tx{one}, nil, api.OK},
		{"all is spent", []tx.Tx{one, pay(list(own(0), own(1)), 70)}, nil, api.OK},
		{"nothing is made of it", []tx.Tx{one, pay(list(own(0), own(1)), 0)}, nil, api.OK},
		{"one more than all", []tx.Tx{one, pay(list(own(0), own(1)), 71)}, nil, api.ErrCoins},
		{"one more than all, in two", []tx.Tx{one, pay(list(own(0), own(1)), 70, 1)}, nil, api.ErrCoins},
		{"a way through the block", []tx.Tx{one, mid, pay(list(of(mid, 0)), 45)}, nil, api.OK},
		{"a way through the block, one more", []tx.Tx{one, mid, pay(list(of(mid, 0)), 46)}, nil, api.ErrCoins},
		{"what another has left", []tx.Tx{one, mid, pay(list(own(1)), 21)}, elders(5), api.ErrCoins},
		{"spent twice by one", []tx.Tx{one, pay(list(own(0), own(0)), 1)}, nil, api.ErrSpent},
		{"spent twice by two", []tx.Tx{one, mid, pay(list(own(0)), 2)}, nil, api.ErrSpent},
		{"an elder one spent twice by one", []tx.Tx{one, pay(points(0, 0), 1)}, elders(5), api.ErrSpent},
		{"an elder one spent twice by two", []tx.Tx{one, pay(points(0), 1), pay(points(1, 0), 2)}, elders(5, 6), api.ErrSpent},
		{"an elder one", []tx.Tx{one, pay(points(0), 5)}, elders(5), api.OK},
		{"an elder one, one more", []tx.Tx{one, pay(points(0), 6)}, elders(5), api.ErrCoins},
		{"one that isn't there", []tx.Tx{one, pay(points(1), 0)}, elders(5), api.ErrSpent},
		{"behind the outputs of one that is there", []tx.Tx{one, pay(list(own(2)), 0)}, nil, api.ErrSpent},
		{"an output of one that stands behind", []tx.Tx{one, pay(list(of(mid, 0)), 1), mid}, nil, api.ErrSpent},
		{"Nowhere beside another", []tx.Tx{one, pay(list(own(0), tx.Nowhere()), 1)}, nil, api.ErrSpent},
		{"a first that is there", []tx.Tx{one}, Set{own(9): {}}, api.ErrTwice},
		{"a second that is there", []tx.Tx{one, mid}, Set{of(mid, 0): {}}, api.ErrTwice},
		{"an output of one behind, that is there", []tx.Tx{one, pay(list(of(mid, 0)), 1), mid}, Set{of(mid, 0): {Coins: 1}}, api.ErrTwice},
		{"inputs at the bound", []tx.Tx{one, pay(points(0, 1), most)}, elders(most-1, 1), api.OK},
		{"inputs above the bound", []tx.Tx{one, pay(points(0, 1), most)}, elders(most, 1), api.ErrCoins},
		{"fees at the bound", []tx.Tx{one, pay(points(0), 0), pay(points(1), 1)}, elders(most-1, 2), api.OK},
		{"fees above the bound", []tx.Tx{one, pay(points(0), 0), pay(points(1), 0)}, elders(most-1, 2), api.ErrCoins},
		{"fees above the bound, then spent", []tx.Tx{one, pay(points(0), 0), pay(points(1), 0), pay(points(9), 0)}, elders(most, 1), api.ErrCoins},
	} {
		_, e := check(t, x.what, rooted(x.txs...), 3, x.view)
		must(t, x.what, e, x.e)
	}
}

// P19.1: coins that no block makes: what a view tells may be below 0, or above every bound.
func TestPlanOddCoins(t *testing.T) {
	one := first("one", 5)
	low, high := int64(math.MinInt64), int64(math.MaxInt64)
	for _, x := range []struct {
		coins []int64
		make  int64
		e     api.Errno
	}{
		{[]int64{-1}, 0, api.ErrCoins},
		{[]int64{-1, 1}, 0, api.OK},
		{[]int64{-1, 6}, 5, api.OK},
		{[]int64{-1, 6}, 6, api.ErrCoins},
		{[]int64{high}, 0, api.ErrCoins},
		{[]int64{1, high}, 0, api.ErrCoins},
		{[]int64{high, high, 2}, 0, api.ErrCoins},
		{[]int64{high, low}, 0, api.ErrCoins},
		{[]int64{low}, 0, api.ErrCoins},
		{[]int64{low, low}, 0, api.ErrCoins},
		{[]int64{low, low, 5}, 5, api.ErrCoins},
		{[]int64{low, high, 1}, 0, api.OK},
		{[]int64{low, high, 6}, 5, api.OK},
		{[]int64{low, low, high, high, 7}, 5, api.OK},
		{[]int64{low, low, high, high, 7}, 6, api.ErrCoins},
		{[]int64{low, high, high}, 0, api.ErrCoins},
		{[]int64{-5, api.MaxCoins + 5}, api.MaxCoins, api.OK},
		{[]int64{-5, api.MaxCoins + 6}, api.MaxCoins, api.ErrCoins},
		{[]int64{api.MaxCoins + 5, -5}, api.MaxCoins, api.ErrCoins},
	} {
		var list []int
		for i := range x.coins {
			list = append(list, i)
		}
		_, e := check(t, "odd coins", rooted(one, pay(points(list...), x.make)), 3, elders(x.coins...))
		if e != x.e {
			t.Errorf("%v to %d: %d, want %d", x.coins, x.make, e, x.e)
		}
	}
}

// P19.1: where several things are wrong, the one that comes first is told: transaction by transaction, input by input.
func TestPlanOrder(t *testing.T) {
	one := first("one", 50)
	poor, gone, fine := pay(points(0), 6), pay(points(9), 0), pay(points(1), 1)
	twice := func(list ...tx.Tx) func(api.Hash) (bool, api.Errno) {
		return func(id api.Hash) (bool, api.Errno) {
			return slices.ContainsFunc(list, func(x tx.Tx) bool { return x.Id() == id }), api.OK
		}
	}
	fault := func(e api.Errno, list ...tx.Tx) func(api.Hash) (bool, api.Errno) {
		return func(id api.Hash) (bool, api.Errno) {
			if slices.ContainsFunc(list, func(x tx.Tx) bool { return x.Id() == id }) {
				return true, e
			}
			return false, api.OK
		}
	}
	spoiled := func(list ...int) func(p tx.Point) (rows.Coin, bool, api.Errno) {
		return func(p tx.Point) (rows.Coin, bool, api.Errno) {
			if slices.Contains(points(list...), p) {
				return rows.Coin{Coins: 5}, true, api.ErrBad
			}
			return elders(5, 6, api.MaxCoins).Coin(p)
		}
	}
	for _, x := range []struct {
		what string
		txs  []tx.Tx
		v    told
		e    api.Errno
	}{
		{"Open's error of the first, and all else", []tx.Tx{one, gone}, told{spoiled(9), fault(api.ErrDown, one, gone)}, api.ErrDown},
		{"Open's error of the second, then spent", []tx.Tx{one, gone}, told{spoiled(), fault(api.ErrBad, gone)}, api.ErrBad},
		{"Open's error of the third, behind spent", []tx.Tx{one, gone, fine}, told{spoiled(), fault(api.ErrBad, fine)}, api.ErrSpent},
		{"Open's error of the third, behind coins", []tx.Tx{one, poor, fine}, told{spoiled(), fault(api.ErrBad, fine)}, api.ErrCoins},
		{"twice, then Coin's error", []tx.Tx{one, fine}, told{spoiled(1), twice(fine)}, api.ErrTwice},
		{"the first twice, then Open's error", []tx.Tx{one, fine}, told{spoiled(), func(id api.Hash) (bool, api.Errno) {
			if id == one.Id() {
				return true, api.OK
			}
			return false, api.ErrDown
		}}, api.ErrTwice},
		{"twice behind spent", []tx.Tx{one, gone, fine}, told{spoiled(), twice(fine)}, api.ErrSpent},
		{"twice behind Coin's error", []tx.Tx{one, gone, fine}, told{spoiled(9), twice(fine)}, api.ErrBad},
		{"Coin's error beside a coin", []tx.Tx{one, fine}, told{spoiled(1), nil}, api.ErrBad},
		{"Coin's error of the second input, then spent", []tx.Tx{one, pay(points(0, 1, 9), 0)}, told{spoiled(1), nil}, api.ErrBad},
		{"spent, then Coin's error", []tx.Tx{one, pay(points(0, 9, 1), 0)}, told{spoiled(1), nil}, api.ErrSpent},
		{"spent in it, then Coin's error", []tx.Tx{one, pay(points(0, 0, 1), 0)}, told{spoiled(1), nil}, api.ErrSpent},
		{"inputs above the bound, then spent", []tx.Tx{one, pay(points(0, 2, 9), 0)}, told{spoiled(), nil}, api.ErrCoins},
		{"inputs above the bound, then Coin's error", []tx.Tx{one, pay(points(0, 2, 1), 0)}, told{spoiled(1), nil}, api.ErrCoins},
		{"spent, then inputs above the bound", []tx.Tx{one, pay(points(2, 9, 0), 0)}, told{spoiled(), nil}, api.ErrSpent},
		{"spent, and outputs more than inputs", []tx.Tx{one, pay(points(0, 9), 100)}, told{spoiled(), nil}, api.ErrSpent},
		{"outputs more than inputs, then spent", []tx.Tx{one, poor, gone}, told{spoiled(), nil}, api.ErrCoins},
		{"fees, then spent", []tx.Tx{one, pay(points(2), 0), fine, gone}, told{spoiled(), nil}, api.ErrCoins},
	} {
		_, e := check(t, x.what, rooted(x.txs...), 3, x.v)
		must(t, x.what, e, x.e)
	}
}

// P19.1: what of a view is asked, and of what it isn't: the block's own outputs, and what its first spends.
func TestPlanAsks(t *testing.T) {
	one := first("one", 50)
	own := tx.Point{Id: one.Id()}
	two := pay([]tx.Point{own, elder(0)}, 50)
	var ids []api.Hash
	var asked []tx.Point
	v := told{
		open: func(id api.Hash) (bool, api.Errno) {
			ids = append(ids, id)
			return false, api.OK
		},
		coin: func(p tx.Point) (rows.Coin, bool, api.Errno) {
			asked = append(asked, p)
			return rows.Coin{Coins: 7, Height: 1 << 40, Pos: -1}, p == elder(0), api.OK
		},
	}
	d, e := Plan(rooted(one, two), 3, v)
	if e != api.OK || len(d.Uses) != 2 || d.Uses[0].Coin.Coins != 50 || d.Fees != 7 {
		t.Fatal("Plan", d, e)
	}
	if !slices.Equal(ids, d.Ids) || !slices.Equal(asked, points(0)) {
		t.Errorf("asked: %x, %v", ids, asked)
	}
	// The coin is told as the view tells it.
	must(t, "the coin", d.Uses[1].Coin, rows.Coin{Coins: 7, Height: 1 << 40, Pos: -1})
}

// P19.1: of an output that is in the view, too, the block's own one is spent; of an Id of its own with another number the view is asked.
func TestPlanOwnFirst(t *testing.T) {
	one := first("one", 50)
	v := told{coin: func(p tx.Point) (rows.Coin, bool, api.Errno) { return rows.Coin{Coins: 3}, true, api.OK }}
	d, e := check(t, "Plan", rooted(one, pay([]tx.Point{{Id: one.Id()}, {Id: one.Id(), Out: 1}}, 53)), 3, v)
	if e != api.OK || d.Uses[0].Coin.Coins != 50 || d.Uses[1].Coin.Coins != 3 {
		t.Error("Plan", d, e)
	}
}

// P19.1: witnesses turn nothing; what is handed in stays as it is, and is not in the answer.
func TestPlanKeepsNothing(t *testing.T) {
	one := first("one", 50)
	two := pay([]tx.Point{elder(0), {Id: one.Id()}}, 55)
	two.Ins[0].Witness = []string{"w"}
	s := elders(5, 6)
	had := elders(5, 6)
	b := rooted(one, two)
	d, e := check(t, "Plan", b, 3, s)
	must(t, "the error", e, api.OK)
	if again := rooted(one, two); again.Head != b.Head || !slices.Equal(again.Ids(), d.Ids) || !sameSet(s, had) {
		t.Error("what was handed in is another one")
	}
	keep := Diff{Ids: slices.Clone(d.Ids), Uses: slices.Clone(d.Uses), Makes: slices.Clone(d.Makes), Fees: d.Fees}
	b.Txs[1].Ins[0].From = elder(1)
	b.Txs[1].Outs[0].Coins = 1
	b.Head.Root = api.Hash{}
	clear(s)
	if !same(d, keep) {
		t.Error("an answer shares memory with what was handed in")
	}
	other, _ := Plan(rooted(one), 3, Set{})
	clear(other.Ids)
	clear(other.Makes)
	if !same(d, keep) {
		t.Error("two answers share memory")
	}
}

func sameSet(x, y Set) bool {
	if len(x) != len(y) {
		return false
	}
	for p, c := range x {
		if other, ok := y[p]; !ok || other != c {
			return false
		}
	}
	return true
}

// P19.1: as many transactions, inputs and outputs as a block has.
func TestPlanOfMany(t *testing.T) {
	var coins []int64
	for i := range api.MaxList {
		coins = append(coins, int64(i))
	}
	one := first("one", coins...)
	txs := []tx.Tx{one}
	for i := range api.MaxList - 1 {
		txs = append(txs, pay([]tx.Point{{Id: one.Id(), Out: uint32(i)}}, int64(i)))
	}
	d, e := Plan(rooted(txs...), 3, Set{})
	if e != api.OK || len(d.Ids) != api.MaxList || len(d.Uses) != api.MaxList-1 || len(d.Makes) != 2*api.MaxList-1 || d.Fees != 0 || len(d.Left()) != api.MaxList || len(d.Touched()) != 26 {
		t.Error("many transactions", e, len(d.Ids), len(d.Uses), len(d.Makes), d.Fees)
	}
	var all []tx.Point
	for i := range api.MaxList {
		all = append(all, tx.Point{Id: one.Id(), Out: uint32(i)})
	}
	d, e = Plan(rooted(one, pay(all, coins...)), 3, Set{})
	if e != api.OK || len(d.Uses) != api.MaxList || d.Uses[1023].In != 1023 || len(d.Left()) != api.MaxList {
		t.Error("many inputs", e, len(d.Uses))
	}
}

// digest is a digest with one byte at its beginning, and one at its end.
func digest(begin, end byte) api.Hash {
	return api.Hash{0: begin, 31: end}
}

// P19.2: Touched is in order, byte by byte, each script once.
func TestTouched(t *testing.T) {
	use := func(h api.Hash) Use { return Use{Coin: rows.Coin{Script: h}} }
	made := func(h api.Hash) Made { return Made{Coin: rows.Coin{Script: h}} }
	for _, x := range []struct {
		what string
		d    Diff
		want []api.Hash
	}{
		{"nothing", Diff{}, nil},
		{"Ids and fees", Diff{Ids: []api.Hash{digest(1, 1)}, Fees: 5}, nil},
		{"one Use", Diff{Uses: []Use{use(digest(9, 0))}}, []api.Hash{digest(9, 0)}},
		{"one Make", Diff{Makes: []Made{made(digest(9, 0))}}, []api.Hash{digest(9, 0)}},
		{"noughts", Diff{Makes: []Made{{}, {}}, Uses: []Use{{}}}, []api.Hash{{}}},
		{"bytes above 127", Diff{Makes: []Made{made(digest(0x80, 0)), made(digest(0x7f, 0)), made(digest(0xff, 0)), made(digest(0, 0))}},
			[]api.Hash{digest(0, 0), digest(0x7f, 0), digest(0x80, 0), digest(0xff, 0)}},
		{"the first byte ahead of the last", Diff{Uses: []Use{use(digest(2, 1)), use(digest(1, 2))}, Makes: []Made{made(digest(1, 1)), made(digest(2, 2))}},
			[]api.Hash{digest(1, 1), digest(1, 2), digest(2, 1), digest(2, 2)}},
		{"one of a Use and of Makes", Diff{Uses: []Use{use(digest(3, 0)), use(digest(1, 0)), use(digest(3, 0))}, Makes: []Made{made(digest(3, 0)), made(digest(2, 0)), made(digest(3, 0))}},
			[]api.Hash{digest(1, 0), digest(2, 0), digest(3, 0)}},
	} {
		uses, makes := slices.Clone(x.d.Uses), slices.Clone(x.d.Makes)
		if got := x.d.Touched(); !slices.Equal(got, x.want) {
			t.Errorf("%s: %x, want %x", x.what, got, x.want)
		}
		if !slices.Equal(uses, x.d.Uses) || !slices.Equal(makes, x.d.Makes) {
			t.Errorf("%s: what it was asked of is another one", x.what)
		}
	}
}

// P19.2: Left is the Makes that no Use spends, in order.
func TestLeft(t *testing.T) {
	made := func(n int) Made { return Made{At: elder(n), Coin: rows.Coin{Coins: int64(n)}} }
	use := func(n int) Use { return Use{From: elder(n)} }
	for _, x := range []struct {
		what string
		d    Diff
		want []Made
	}{
		{"nothing", Diff{}, nil},
		{"no Makes", Diff{Uses: []Use{use(1)}}, nil},
		{"no Uses", Diff{Makes: []Made{made(3), made(1), made(2)}}, []Made{made(3), made(1), made(2)}},
		{"one is spent", Diff{Makes: []Made{made(3), made(1), made(2)}, Uses: []Use{use(7), use(1)}}, []Made{made(3), made(2)}},
		{"all are spent", Diff{Makes: []Made{made(3), made(1)}, Uses: []Use{use(1), use(3)}}, nil},
		{"another number, another Id", Diff{Makes: []Made{made(3)}, Uses: []Use{{From: tx.Point{Id: elder(3).Id}}, {From: tx.Point{Out: 3}}}}, []Made{made(3)}},
	} {
		had := slices.Clone(x.d.Makes)
		got := x.d.Left()
		if !slices.Equal(got, x.want) {
			t.Errorf("%s: %v, want %v", x.what, got, x.want)
		}
		clear(got)
		_ = append(got, made(9))
		if !slices.Equal(had, x.d.Makes) {
			t.Errorf("%s: Left shares memory", x.what)
		}
	}
}

// P19.2: a Set tells its outputs, and of which transactions it has one.
func TestSet(t *testing.T) {
	c := rows.Coin{Coins: 5, Script: Script("a"), Height: 6, Pos: 7}
	s := Set{elder(1): c, elder(2): {}}
	for _, x := range []struct {
		p  tx.Point
		c  rows.Coin
		ok bool
	}{
		{elder(1), c, true},
		{elder(2), rows.Coin{}, true},
		{elder(3), rows.Coin{}, false},
		{tx.Point{Id: elder(1).Id}, rows.Coin{}, false},
		{tx.Point{Out: 1}, rows.Coin{}, false},
		{tx.Nowhere(), rows.Coin{}, false},
	} {
		for _, v := range []View{s, s.Apply(Diff{})} {
			got, ok, e := v.Coin(x.p)
			must(t, "a coin", got, x.c)
			must(t, "whether it is there", ok, x.ok)
			must(t, "its error", e, api.OK)
		}
		got, ok, e := Set(nil).Coin(x.p)
		must(t, "of a nil Set", got == rows.Coin{} && !ok && e == api.OK, true)
	}
	for _, x := range []struct {
		id   api.Hash
		open bool
	}{
		{elder(1).Id, true}, {elder(2).Id, true}, {elder(3).Id, false}, {api.Hash{}, false}, {c.Script, false},
	} {
		open, e := View(s).Open(x.id)
		must(t, "Open", open, x.open)
		must(t, "Open's error", e, api.OK)
		open, e = Set(nil).Open(x.id)
		must(t, "Open of a nil Set", open || e != api.OK, false)
	}
	open, _ := Set{{}: {}}.Open(api.Hash{})
	must(t, "Open of noughts", open, true)
}

// P19.2: Apply is a new Set, with Makes, without what Uses spend.
func TestApply(t *testing.T) {
	c := func(n int64) rows.Coin { return rows.Coin{Coins: n} }
	for _, x := range []struct {
		what string
		s    Set
		d    Diff
		want Set
	}{
		{"nothing to nothing", nil, Diff{}, Set{}},
		{"nothing", Set{elder(1): c(1)}, Diff{Ids: []api.Hash{{}}, Fees: 1}, Set{elder(1): c(1)}},
		{"Makes to nothing", nil, Diff{Makes: []Made{{elder(1), c(1)}, {elder(2), c(2)}}}, Set{elder(1): c(1), elder(2): c(2)}},
		{"Makes", Set{elder(1): c(1)}, Diff{Makes: []Made{{elder(2), c(2)}}}, Set{elder(1): c(1), elder(2): c(2)}},
		{"Uses", Set{elder(1): c(1), elder(2): c(2)}, Diff{Uses: []Use{{From: elder(1)}}}, Set{elder(2): c(2)}},
		{"Uses of nothing", nil, Diff{Uses: []Use{{From: elder(1)}}}, Set{}},
		{"what isn't there is spent", Set{elder(2): c(2)}, Diff{Uses: []Use{{From: elder(1)}}}, Set{elder(2): c(2)}},
		{"what it makes it spends", Set{elder(1): c(1)}, Diff{Uses: []Use{{From: elder(1)}, {From: elder(2)}}, Makes: []Made{{elder(2), c(2)}, {elder(3), c(3)}}}, Set{elder(3): c(3)}},
		{"what is there is made", Set{elder(1): c(1)}, Diff{Makes: []Made{{elder(1), c(5)}}}, Set{elder(1): c(5)}},
		{"all is gone", Set{elder(1): c(1)}, Diff{Uses: []Use{{From: elder(1)}}}, Set{}},
	} {
		had := Set{}
		for p, c := range x.s {
			had[p] = c
		}
		got := x.s.Apply(x.d)
		if !sameSet(got, x.want) {
			t.Errorf("%s: %v, want %v", x.what, got, x.want)
		}
		if got == nil {
			t.Errorf("%s: a Set to which nothing can be added", x.what)
			continue
		}
		got[elder(99)] = rows.Coin{}
		if !sameSet(x.s, had) {
			t.Errorf("%s: the Set it was asked of is another one: %v", x.what, x.s)
		}
	}
}

// roller makes blocks of all kinds on a set of coins.
type roller struct {
	d    dice
	set  Set
	list []tx.Point // all there ever were, in order
	n    int
}

// block is a block most of whose transactions are right.
func (r *roller) block() block.Block {
	r.n++
	one := first(strings.Repeat("x", r.n), int64(r.d.roll(1000)), int64(r.d.roll(1000)))
	txs := []tx.Tx{one}
	known := Set{}
	r.learn(one, known)
	for range r.d.roll(5) {
		t := r.tx(known)
		txs = append(txs, t)
		r.learn(t, known)
	}
	if r.d.roll(20) == 0 {
		txs = append(txs, txs[r.d.roll(len(txs))])
	}
	b := rooted(txs...)
	if r.d.roll(30) == 0 {
		b.Head.Root[0] ^= 1
	}
	return b
}

// learn notes what a transaction makes.
func (r *roller) learn(t tx.Tx, known Set) {
	for i, out := range t.Outs {
		p := tx.Point{Id: t.Id(), Out: uint32(i)}
		known[p] = rows.Coin{Coins: out.Coins}
		r.list = append(r.list, p)
	}
}

// tx is a transaction that spends some outputs, mostly such as are there.
func (r *roller) tx(known Set) tx.Tx {
	t := tx.Tx{Lock: uint32(r.d.roll(1 << 30))}
	var sum int64
	for range 1 + r.d.roll(3) {
		p := r.point(known)
		sum += r.set[p].Coins + known[p].Coins
		t.Ins = append(t.Ins, tx.In{From: p})
	}
	for range 1 + r.d.roll(3) {
		n := int64(r.d.roll(int(sum) + 1))
		sum -= n
		t.Outs = append(t.Outs, tx.Out{Coins: n, Script: string(rune('a' + r.d.roll(26)))})
	}
	if r.d.roll(25) == 0 {
		t.Outs[0].Coins += sum + 1
	}
	return t
}

// point is an output: one that is there, if a few tries find one, of those that were last.
func (r *roller) point(known Set) tx.Point {
	if r.d.roll(60) == 0 {
		return elder(r.d.roll(1000))
	}
	for range 20 {
		p := r.list[max(0, len(r.list)-1-r.d.roll(60))]
		_, old := r.set[p]
		if _, own := known[p]; old || own {
			return p
		}
	}
	return r.list[r.d.roll(len(r.list))]
}

// total is all coins of a set.
func (s Set) total() int64 {
	var sum int64
	for _, c := range s {
		sum += c.Coins
	}
	return sum
}

// P19.1, P19.2, P19.3: blocks one behind the other, right and wrong, held against plain models; no coins come of nothing.
func TestWalk(t *testing.T) {
	seen := map[api.Errno]int{}
	for seed := range 30 {
		r := roller{d: dice(seed), set: Set{}}
		for height := range 60 {
			b := r.block()
			d, e := check(t, "Plan", b, height, r.set)
			if t.Failed() {
				t.Fatalf("seed %d, height %d", seed, height)
			}
			if seen[e]++; e != api.OK {
				continue
			}
			checkWalk(t, b, d, r.set)
			r.set = r.set.Apply(d)
		}
	}
	for _, e := range []api.Errno{api.OK, api.ErrSpent, api.ErrCoins, api.ErrTwice, api.ErrRoot} {
		if seen[e] < 10 {
			t.Errorf("only %d blocks came to %d", seen[e], e)
		}
	}
}

// checkWalk asks all that is told of one block that is right.
func checkWalk(t *testing.T, b block.Block, d Diff, set Set) {
	t.Helper()
	var made, spent, fresh int64
	for _, m := range d.Makes {
		if m.Coin.Pos == 0 {
			fresh += m.Coin.Coins
		} else {
			made += m.Coin.Coins
		}
	}
	for _, u := range d.Uses {
		spent += u.Coin.Coins
		must(t, "whose input it is", b.Txs[u.Pos].Ins[u.In].From, u.From)
	}
	must(t, "what is made of what is spent", made, spent-d.Fees)
	behind := set.Apply(d)
	must(t, "all coins", behind.total(), set.total()+fresh-d.Fees)
	want := Set{}
	for p, c := range set {
		want[p] = c
	}
	left := d.Left()
	for _, m := range left {
		want[m.At] = m.Coin
	}
	for _, u := range d.Uses {
		delete(want, u.From)
	}
	must(t, "the set", sameSet(behind, want), true)
	must(t, "how many stay", len(behind)-len(set), len(d.Makes)-len(d.Uses))
	touched := d.Touched()
	if !slices.IsSortedFunc(touched, func(a, b api.Hash) int { return bytes.Compare(a[:], b[:]) }) {
		t.Error("Touched isn't in order")
	}
	whose := map[api.Hash]bool{}
	for _, h := range touched {
		whose[h] = true
	}
	must(t, "Touched, each once", len(whose), len(touched))
	for _, u := range d.Uses {
		must(t, "a Use's script", whose[u.Coin.Script], true)
	}
	for _, m := range d.Makes {
		must(t, "a Make's script", whose[m.Coin.Script], true)
	}
}
