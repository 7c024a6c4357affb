package level

import (
	"slices"

	"tailrace/key"
)

// Keep is changes in order without those that nobody sees: who looks by one of some numbers, or by all; at the bottom without those that are gone for all.
func Keep(list []key.Entry, snaps []uint64, bottom bool) []key.Entry {
	snaps = slices.Sorted(slices.Values(snaps))
	var kept []key.Entry
	for len(list) > 0 {
		n := ofOneKey(list)
		one := keepOne(list[:n], snaps)
		if bottom {
			one = withoutGone(one)
		}
		kept = append(kept, one...)
		list = list[n:]
	}
	return kept
}

// ofOneKey is how many of the changes, from the first on, are of its key.
func ofOneKey(list []key.Entry) int {
	n := slices.IndexFunc(list, func(x key.Entry) bool { return x.Key != list[0].Key })
	if n < 0 {
		return len(list)
	}
	return n
}

// keepOne is one key's changes, the newest first, without those that nobody sees; snaps are in order.
func keepOne(list []key.Entry, snaps []uint64) []key.Entry {
	newest, above := true, uint64(0)
	// seen keeps the number of the change that it was asked about last: who looks by that one, or by a greater one, sees nothing behind it.
	seen := func(seq uint64) bool {
		i, _ := slices.BinarySearch(snaps, seq)
		sees := newest || i < len(snaps) && snaps[i] < above
		newest, above = false, seq
		return sees
	}
	var kept []key.Entry
	for _, x := range list {
		if seen(x.Seq) {
			kept = append(kept, x)
		}
	}
	return kept
}

// withoutGone leaves out of one key's changes the last ones that tell that it is gone: with nothing beneath, that is so without them.
func withoutGone(list []key.Entry) []key.Entry {
	for len(list) > 0 && list[len(list)-1].Del {
		list = list[:len(list)-1]
	}
	return list
}

// Cut parts changes: each part ends from so many bytes on; no key stands in two.
func Cut(list []key.Entry, size int) [][]key.Entry {
	var parts [][]key.Entry
	for len(list) > 0 {
		n := firstPart(list, size)
		parts = append(parts, slices.Clone(list[:n]))
		list = list[n:]
	}
	return parts
}

// firstPart is how many of the changes the first part has.
func firstPart(list []key.Entry, size int) int {
	n, sum := 0, 0
	for n < len(list) {
		one := list[n:]
		one = one[:ofOneKey(one)]
		for _, x := range one {
			sum += len(x.Key) + len(x.Val)
		}
		n += len(one)
		if sum >= size {
			break
		}
	}
	return n
}
