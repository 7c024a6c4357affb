package coin

import (
	"maps"

	"tailrace/api"
	"tailrace/rows"
	"tailrace/tx"
)

// Set is outputs in memory, as a view.
type Set map[tx.Point]rows.Coin

// Coin is an output that isn't spent.
func (s Set) Coin(p tx.Point) (rows.Coin, bool, api.Errno) {
	c, ok := s[p]
	return c, ok, api.OK
}

// Open tells whether a transaction may not come: it may, if none of its outputs is here.
func (s Set) Open(id api.Hash) (bool, api.Errno) {
	for p := range s {
		if p.Id == id {
			return true, api.OK
		}
	}
	return false, api.OK
}

// Apply is the set behind a block.
func (s Set) Apply(d Diff) Set {
	behind := make(Set, len(s)+len(d.Makes))
	maps.Copy(behind, s)
	for _, m := range d.Makes {
		behind[m.At] = m.Coin
	}
	// Last, so that what the block makes and spends itself isn't there.
	for _, u := range d.Uses {
		delete(behind, u.From)
	}
	return behind
}
