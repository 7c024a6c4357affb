package rows

import (
	"tailrace/api"
	"tailrace/tx"
)

// With these the keys of each kind begin.
const (
	tipKey     = "m"
	lowKey     = "w"
	headKey    = "b"
	txKey      = "t"
	posKey     = "p"
	histKey    = "h"
	unspentKey = "u"
	outKey     = "c"
	spentKey   = "s"
	undoKey    = "r"
)

// Tip is the key of the last block's height.
func Tip() string {
	return tipKey
}

// Low is the key of the least height of which there is an undo.
func Low() string {
	return lowKey
}

// Head is the key of a header.
func Head(height int) string {
	return numbered(headKey, height)
}

// Tx is the key of a transaction.
func Tx(id api.Hash) string {
	return hashed(txKey, id)
}

// Pos is the key of which transaction stands where.
func Pos(height, pos int) string {
	return numbered(posKey, height, pos)
}

// Hist is the key of a script's history at a place, Hists what all of them begin with.
func Hist(script api.Hash, height, pos int) string {
	return numbered(Hists(script), height, pos)
}

// Hists is what a script's history begins with.
func Hists(script api.Hash) string {
	return hashed(histKey, script)
}

// Unspent is the key of a script's output, Unspents what all of them begin with.
func Unspent(script api.Hash, p tx.Point) string {
	return pointed(Unspents(script), p)
}

// Unspents is what a script's outputs begin with.
func Unspents(script api.Hash) string {
	return hashed(unspentKey, script)
}

// Out is the key of an output, Outs what all of a transaction's begin with.
func Out(p tx.Point) string {
	return pointed(outKey, p)
}

// Outs is what a transaction's outputs begin with.
func Outs(id api.Hash) string {
	return hashed(outKey, id)
}

// Spent is the key of who spends an output.
func Spent(p tx.Point) string {
	return pointed(spentKey, p)
}

// Undo is the key of what an input spent, Undos what all of a block's begin with.
func Undo(height, pos, in int) string {
	return numbered(undoKey, height, pos, in)
}

// Undos is what all of a block's undo begins with.
func Undos(height int) string {
	return numbered(undoKey, height)
}

// numbered is a key that goes on with numbers.
func numbered(k string, list ...int) string {
	return string(putNumbers([]byte(k), list...))
}

// hashed is a key that goes on with a digest.
func hashed(k string, h api.Hash) string {
	return k + string(h[:])
}

// pointed is a key that goes on with an output.
func pointed(k string, p tx.Point) string {
	return string(putPoint([]byte(k), p))
}
