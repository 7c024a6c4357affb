package coin

import (
	"math/bits"

	"tailrace/api"
	"tailrace/block"
	"tailrace/rows"
	"tailrace/tx"
)

// plan is what a block turns, up to a transaction.
type plan struct {
	view   View
	height int
	made   Set                   // what the block's own transactions made
	spent  map[tx.Point]struct{} // what they spent, their own or not
	diff   Diff
}

// Plan is what a block of a height turns, or why it can't be.
func Plan(b block.Block, height int, v View) (Diff, api.Errno) {
	if v == nil || height < 0 || height > rows.MostHeight {
		return Diff{}, api.ErrArg
	}
	if e := b.Check(); e != api.OK {
		return Diff{}, e
	}
	p := plan{view: v, height: height, made: Set{}, spent: map[tx.Point]struct{}{}, diff: Diff{Ids: b.Ids()}}
	for pos, t := range b.Txs {
		if e := p.turn(t, pos); e != api.OK {
			return Diff{}, e
		}
	}
	return p.diff, api.OK
}

// turn is what a transaction turns; its coins are in their bounds.
func (p *plan) turn(t tx.Tx, pos int) api.Errno {
	there, e := p.view.Open(p.diff.Ids[pos])
	switch {
	case e != api.OK:
		return e
	case there:
		return api.ErrTwice
	}
	if pos > 0 {
		if e := p.pay(t, pos); e != api.OK {
			return e
		}
	}
	p.add(t, pos)
	return api.OK
}

// pay spends what a transaction spends, which must be as much as it makes; what is more is fees.
func (p *plan) pay(t tx.Tx, pos int) api.Errno {
	var ins sum
	for i, in := range t.Ins {
		c, e := p.spend(in.From)
		if e != api.OK {
			return e
		}
		ins.add(c.Coins)
		if ins.above(api.MaxCoins) {
			return api.ErrCoins
		}
		p.diff.Uses = append(p.diff.Uses, Use{Pos: pos, In: i, From: in.From, Coin: c})
	}
	outs, _ := t.Coins()
	ins.add(-outs)
	if ins.below() {
		return api.ErrCoins
	}
	ins.add(p.diff.Fees)
	if ins.above(api.MaxCoins) {
		return api.ErrCoins
	}
	p.diff.Fees = int64(ins.low)
	return api.OK
}

// spend is the coin of an output that isn't spent, and then is.
func (p *plan) spend(from tx.Point) (rows.Coin, api.Errno) {
	c, ok := p.made[from]
	if !ok {
		var e api.Errno
		if c, ok, e = p.view.Coin(from); e != api.OK {
			return rows.Coin{}, e
		}
	}
	if _, gone := p.spent[from]; gone || !ok {
		return rows.Coin{}, api.ErrSpent
	}
	p.spent[from] = struct{}{}
	return c, api.OK
}

// add makes a transaction's outputs.
func (p *plan) add(t tx.Tx, pos int) {
	for i, out := range t.Outs {
		at := tx.Point{Id: p.diff.Ids[pos], Out: uint32(i)}
		c := rows.Coin{Coins: out.Coins, Script: Script(out.Script), Height: p.height, Pos: pos}
		p.made[at] = c
		p.diff.Makes = append(p.diff.Makes, Made{At: at, Coin: c})
	}
}

// sum is a sum of coins, of twice as many bits: a view may tell any coins, and those of several inputs are above an int64, or below.
type sum struct {
	high int64
	low  uint64
}

func (s *sum) add(coins int64) {
	low, carry := bits.Add64(s.low, uint64(coins), 0)
	s.low = low
	s.high += coins>>63 + int64(carry)
}

func (s sum) below() bool {
	return s.high < 0
}

func (s sum) above(most int64) bool {
	return s.high > 0 || s.high == 0 && s.low > uint64(most)
}
