package block

import (
	"tailrace/api"
	"tailrace/sha"
)

// Root is the root of digests.
func Root(ids []api.Hash) api.Hash {
	if len(ids) == 0 {
		return api.Hash{}
	}
	row := ids
	for len(row) > 1 {
		row = above(row)
	}
	return row[0]
}

// Branch is what stands beside a digest's way to the root.
func Branch(ids []api.Hash, at int) ([]api.Hash, api.Errno) {
	if at < 0 || at >= len(ids) {
		return nil, api.ErrArg
	}
	var branch []api.Hash
	for row := ids; len(row) > 1; row = above(row) {
		branch = append(branch, row[other(row, at)])
		at /= 2
	}
	return branch, api.OK
}

// Climb is the root to which a digest at a place comes, by what stands beside its way.
func Climb(id api.Hash, at int, branch []api.Hash) api.Hash {
	for _, beside := range branch {
		// By bits, not by / and %: below 0 these would round up, and find nothing odd.
		if at&1 == 1 {
			id = sha.Pair(beside, id)
		} else {
			id = sha.Pair(id, beside)
		}
		at >>= 1
	}
	return id
}

// above is the row above a row of digests.
func above(row []api.Hash) []api.Hash {
	up := make([]api.Hash, 0, len(row)-len(row)/2)
	for i := 0; i < len(row); i += 2 {
		up = append(up, sha.Pair(row[i], row[other(row, i)]))
	}
	return up
}

// other is the place of the other of the pair in which place at is; itself, if it is left over.
func other(row []api.Hash, at int) int {
	return min(at^1, len(row)-1)
}
