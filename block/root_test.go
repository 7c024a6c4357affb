package block

import (
	"crypto/sha256"
	"encoding/hex"
	"math"
	"slices"
	"testing"

	"tailrace/api"
)

// double is the digest of a digest, by the library.
func double(b []byte) api.Hash {
	once := sha256.Sum256(b)
	return sha256.Sum256(once[:])
}

// pair is the Pair of two digests, by the library.
func pair(a, b api.Hash) api.Hash {
	return double(slices.Concat(a[:], b[:]))
}

// digests is so many digests, no two alike.
func digests(n int) []api.Hash {
	list := make([]api.Hash, n)
	for i := range list {
		list[i] = api.Hash{0: byte(i), 1: byte(i >> 8), 31: 7}
	}
	return list
}

// rows is the row of ids and all rows above it, as the document tells them.
func rows(ids []api.Hash) [][]api.Hash {
	all := [][]api.Hash{ids}
	for len(ids) > 1 {
		var up []api.Hash
		for len(ids) > 1 {
			up = append(up, pair(ids[0], ids[1]))
			ids = ids[2:]
		}
		if len(ids) == 1 {
			up = append(up, pair(ids[0], ids[0]))
		}
		ids = up
		all = append(all, up)
	}
	return all
}

// way is the Branch of the digest at, by the rows.
func way(all [][]api.Hash, at int) []api.Hash {
	var list []api.Hash
	for _, row := range all {
		switch {
		case len(row) == 1:
			return list
		case at%2 == 1:
			list = append(list, row[at-1])
		case at+1 < len(row):
			list = append(list, row[at+1])
		default:
			list = append(list, row[at])
		}
		at /= 2
	}
	return list
}

// shown is a digest of 64 signs as it is shown: its last byte first.
func shown(s string) api.Hash {
	b, _ := hex.DecodeString(s)
	slices.Reverse(b)
	return api.Hash(b)
}

// P8.2: the document's example, written out.
func TestRootSmall(t *testing.T) {
	a, b, c := api.Hash{1}, api.Hash{2}, api.Hash{31: 3}
	for i, x := range []struct {
		ids  []api.Hash
		want api.Hash
	}{
		{nil, api.Hash{}},
		{[]api.Hash{}, api.Hash{}},
		{[]api.Hash{{}}, api.Hash{}},
		{[]api.Hash{a}, a},
		{[]api.Hash{a, b}, pair(a, b)},
		{[]api.Hash{b, a}, pair(b, a)},
		{[]api.Hash{a, a}, pair(a, a)},
		{[]api.Hash{{}, {}}, pair(api.Hash{}, api.Hash{})},
		{[]api.Hash{a, b, c}, pair(pair(a, b), pair(c, c))},
		{[]api.Hash{a, b, c, c}, pair(pair(a, b), pair(c, c))},
		{[]api.Hash{a, b, c, a}, pair(pair(a, b), pair(c, a))},
	} {
		if got := Root(x.ids); got != x.want {
			t.Errorf("Root %d: %x, want %x", i, got, x.want)
		}
	}
}

// P8.2: a root that stands in Bitcoin's own chain, of the block of height 100000.
func TestRootKnown(t *testing.T) {
	ids := []api.Hash{
		shown("8c14f0db3df150123e6f3dbbf30f8b955a8249b62ac1d1ff16284aefa3d06d87"),
		shown("fff2525b8931402dd09222c50775608f75787bd2b87e56995a7bdd30f79702c4"),
		shown("6359f0868171b1d194cbee1af2f16ea598ae8fad666d9b012c8ed2b79a236ec4"),
		shown("e9a66845e05d5abc0ad04ec80f774a7e585c6e8db975962d069a522137b80c1d"),
	}
	want := shown("f3e94742aca4b5ef85488dc37c06c3282295ffec960994b2c0d5ac2a25a95766")
	if got := Root(ids); got != want {
		t.Errorf("Root: %x, want %x", got, want)
	}
}

// P8.2: the root, all branches, and the way up by each, of rows of all kinds of lengths.
func TestBranches(t *testing.T) {
	lengths := []int{63, 64, 65, 66, 67, 100, 127, 129, api.MaxList, api.MaxList + 1}
	for n := range 40 {
		lengths = append(lengths, n+1)
	}
	for _, n := range lengths {
		ids := digests(n)
		all := rows(ids)
		root := all[len(all)-1][0]
		if got := Root(ids); got != root {
			t.Errorf("Root of %d: %x, want %x", n, got, root)
		}
		step := 1 + n/50
		for at := n - 1; at >= 0; at -= step {
			branch, e := Branch(ids, at)
			if want := way(all, at); e != api.OK || !slices.Equal(branch, want) {
				t.Errorf("Branch of %d at %d: %x, %d, want %x", n, at, branch, e, want)
			}
			if got := Climb(ids[at], at, branch); got != root {
				t.Errorf("Climb of %d at %d: %x, want %x", n, at, got, root)
			}
		}
		if !slices.Equal(ids, digests(n)) {
			t.Errorf("%d digests that were given are turned", n)
		}
	}
}

// P8.2: where there is no digest.
func TestBranchNone(t *testing.T) {
	for _, n := range []int{0, 1, 2, 3, 8, 9} {
		for _, at := range []int{math.MinInt, -n - 1, -2, -1, n, n + 1, n + 2, 2 * (n + 1), math.MaxInt} {
			if branch, e := Branch(digests(n), at); e != api.ErrArg || len(branch) > 0 {
				t.Errorf("Branch of %d at %d: %x, %d", n, at, branch, e)
			}
		}
	}
	if branch, e := Branch(digests(1), 0); e != api.OK || len(branch) > 0 {
		t.Errorf("Branch of one: %x, %d", branch, e)
	}
}

// P8.2: an answer is new memory, and the room behind what is given stays.
func TestBranchShares(t *testing.T) {
	room := digests(8)
	for n := 1; n <= 5; n++ {
		branch, _ := Branch(room[:n], n-1)
		for i := range branch {
			branch[i] = api.Hash{}
		}
		_ = append(branch, api.Hash{})
		Root(room[:n])
		_ = append(branch, Climb(api.Hash{}, 0, room[:n]))
		if !slices.Equal(room, digests(8)) {
			t.Fatalf("Branch of %d shares memory with what is given", n)
		}
	}
}

// P8.2: each step of a climb, at all kinds of places, with branches that are longer than a place has bits.
func TestClimb(t *testing.T) {
	id := api.Hash{5}
	for _, at := range []int{0, 1, 2, 3, 5, 6, 1023, 1 << 40, math.MaxInt, -1, -2, -3, -4, -6, math.MinInt, math.MinInt + 1} {
		for _, n := range []int{0, 1, 2, 3, 10, 62, 63, 64, 65, 70} {
			branch := digests(n)
			want := id
			for i, beside := range branch {
				// The bits of a number below 0 go on as ones.
				if odd := at>>min(i, 63)&1 == 1; odd {
					want = pair(beside, want)
				} else {
					want = pair(want, beside)
				}
			}
			if got := Climb(id, at, branch); got != want {
				t.Errorf("Climb at %d by %d: %x, want %x", at, n, got, want)
			}
			if !slices.Equal(branch, digests(n)) {
				t.Errorf("Climb at %d by %d turned what it was given", at, n)
			}
		}
	}
	a, b := api.Hash{1}, api.Hash{2}
	if got := Climb(id, -3, []api.Hash{a, b}); got != pair(pair(a, id), b) {
		t.Errorf("Climb at -3, whose last bits are 01: %x", got)
	}
	if Climb(id, 7, nil) != id || Climb(id, -7, []api.Hash{}) != id {
		t.Error("Climb by nothing goes somewhere")
	}
}

// P8.2: another digest, place or branch comes to another root.
func TestClimbElsewhere(t *testing.T) {
	for _, n := range []int{2, 4, 7, 8, 16} {
		ids := digests(n)
		root := Root(ids)
		for at := range n {
			branch, _ := Branch(ids, at)
			if Climb(api.Hash{30: 9}, at, branch) == root {
				t.Errorf("another digest comes to the root of %d at %d", n, at)
			}
			for i := range branch {
				turned := slices.Clone(branch)
				turned[i][17] ^= 1
				if Climb(ids[at], at, turned) == root {
					t.Errorf("a branch that is turned comes to the root of %d at %d", n, at)
				}
			}
			if at > 0 && Climb(ids[at], at-1, branch) == root && ids[at] != branch[0] {
				t.Errorf("another place comes to the root of %d at %d", n, at)
			}
		}
	}
}
