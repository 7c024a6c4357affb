package level

import (
	"cmp"
	"fmt"
	"math"
	"slices"
	"strings"
	"testing"

	"tailrace/key"
)

// changes is changes that are written out, each a key, its number, and - if it is gone.
func changes(s string) []key.Entry {
	var list []key.Entry
	for _, w := range strings.Fields(s) {
		var x key.Entry
		x.Del = strings.HasSuffix(w, "-")
		x.Key = w[:1]
		fmt.Sscan(strings.TrimSuffix(w[1:], "-"), &x.Seq)
		if !x.Del {
			x.Val = w
		}
		list = append(list, x)
	}
	return list
}

// shown is changes, written out.
func shown(list []key.Entry) string {
	var all []string
	for _, x := range list {
		w := fmt.Sprint(x.Key, x.Seq)
		if x.Del {
			w += "-"
		}
		all = append(all, w)
	}
	return strings.Join(all, " ")
}

// P16.3: what is kept, written out.
func TestKeep(t *testing.T) {
	for _, c := range []struct {
		list   string
		snaps  []uint64
		bottom bool
		want   string
	}{
		{"", nil, false, ""},
		{"", []uint64{1, 2}, true, ""},
		{"a9 a7 a3", []uint64{8}, false, "a9 a7"},
		{"a9 a7 a3", []uint64{7}, false, "a9 a7"},
		{"a9 a7 a3", []uint64{6}, false, "a9 a3"},
		{"a9 a7 a3", []uint64{3}, false, "a9 a3"},
		{"a9 a7 a3", []uint64{2}, false, "a9"},
		{"a9 a7 a3", []uint64{9}, false, "a9"},
		{"a9 a7 a3", []uint64{10, math.MaxUint64}, false, "a9"},
		{"a9 a7 a3", []uint64{5, 8}, false, "a9 a7 a3"},
		{"a9 a7 a3", []uint64{8, 5}, false, "a9 a7 a3"},
		{"a9 a7 a3", []uint64{0, 8, 8, 8, 1}, false, "a9 a7"},
		{"a9 a7 a3", nil, false, "a9"},
		{"a9 a7 a3", nil, true, "a9"},
		{"a9 a8 a0", []uint64{0}, false, "a9 a0"},
		{"a1 b9 b4 c4 c3 d1", []uint64{3}, false, "a1 b9 c4 c3 d1"},
		// A key's first change is kept, whatever the one of the key ahead was.
		{"a1 b9 b4", []uint64{5}, false, "a1 b9 b4"},
		{"a9 b9 c1", nil, true, "a9 b9 c1"},
		// What is gone is seen as gone, as long as something may stand beneath.
		{"a9- a7 a3", nil, false, "a9-"},
		{"a9- a7 a3", nil, true, ""},
		{"a9- a7 a3-", []uint64{8, 4}, true, "a9- a7"},
		{"a9- a7- a3-", []uint64{8, 4}, true, ""},
		{"a9- a7- a3-", []uint64{8, 4}, false, "a9- a7- a3-"},
		{"a9 a7- a3-", []uint64{8, 4}, true, "a9"},
		{"a9- a7- a3", []uint64{8, 4}, true, "a9- a7- a3"},
		{"a9 a7- a3 a1-", []uint64{8, 4, 1}, true, "a9 a7- a3"},
		// What isn't kept of the snaps doesn't hold up what is at the end.
		{"a9- a7- a3", []uint64{8}, true, ""},
		{"a9- b8- c7-", nil, true, ""},
		{"a9- b8 c7-", nil, true, "b8"},
		{"a9 b8- c7", nil, true, "a9 c7"},
		// Alike ones: the first stays.
		{"a9 a9 a7 a7", []uint64{9, 8}, false, "a9 a7"},
		{"a9- a9 a7", []uint64{9}, true, ""},
	} {
		list, snaps := changes(c.list), slices.Clone(c.snaps)
		if got := Keep(list, snaps, c.bottom); shown(got) != c.want {
			t.Errorf("Keep of %s by %v, %v: %s, want %s", c.list, c.snaps, c.bottom, shown(got), c.want)
		}
		if shown(list) != c.list || !slices.Equal(snaps, c.snaps) {
			t.Errorf("Keep of %s by %v turned what was handed in", c.list, c.snaps)
		}
	}
}

// rolledList is changes in order, of few keys and numbers.
func rolledList(r *dice, n int, numbers int) []key.Entry {
	var list []key.Entry
	for range n {
		x := key.Entry{Key: strings.Repeat("k", 1+r.roll(4)), Seq: uint64(r.roll(numbers)), Del: r.roll(3) == 0}
		if !x.Del {
			x.Val = strings.Repeat("v", r.roll(9)) + fmt.Sprint(len(list))
		}
		list = append(list, x)
	}
	slices.SortStableFunc(list, key.Entry.Cmp)
	return slices.CompactFunc(list, func(x, y key.Entry) bool { return x.Cmp(y) == 0 })
}

// kept is what Keep has to answer, as the document says it.
func kept(list []key.Entry, snaps []uint64, bottom bool) []key.Entry {
	var all []key.Entry
	for i, x := range list {
		stays := i == 0 || list[i-1].Key != x.Key
		for _, s := range snaps {
			stays = stays || x.Seq <= s && s < list[i-1].Seq
		}
		if stays {
			all = append(all, x)
		}
	}
	for i := len(all) - 1; bottom && i >= 0; i-- {
		if all[i].Del && (i == len(all)-1 || all[i+1].Key != all[i].Key) {
			all = slices.Delete(all, i, i+1)
		}
	}
	return all
}

// sees is what somebody sees of a key by a number: the change's Val, if there is one that isn't Del.
func sees(name string, seq uint64, lists ...[]key.Entry) (string, bool) {
	for _, list := range lists {
		for _, x := range list {
			if x.Key == name && x.Seq <= seq {
				return x.Val, !x.Del
			}
		}
	}
	return "", false
}

// P16.3: Keep, held against the document's words; and who looks by a snap, or by all, sees what there was.
func TestKeepRolled(t *testing.T) {
	r := dice(9)
	for range 4000 {
		whole := rolledList(&r, r.roll(25), 20)
		// The newest of each key stand in the list, what is beneath is older.
		var list, beneath []key.Entry
		least := uint64(r.roll(20))
		for _, x := range whole {
			if x.Seq >= least {
				list = append(list, x)
			} else {
				beneath = append(beneath, x)
			}
		}
		var snaps []uint64
		for range r.roll(4) {
			snaps = append(snaps, uint64(r.roll(22)))
		}
		for _, bottom := range []bool{false, true} {
			if bottom {
				beneath = nil
			}
			got := Keep(list, snaps, bottom)
			if want := kept(list, snaps, bottom); !slices.Equal(got, want) {
				t.Fatalf("Keep of %s by %v, %v: %s, want %s", shown(list), snaps, bottom, shown(got), shown(want))
			}
			for _, seq := range append(snaps, 19, 20, key.MaxSeq, math.MaxUint64) {
				for n := range 5 {
					name := strings.Repeat("k", n+1)
					v, ok := sees(name, seq, got, beneath)
					if want, is := sees(name, seq, list, beneath); v != want || ok != is {
						t.Fatalf("Keep of %s by %v, %v: %s by %d sees %q %v, want %q %v", shown(list), snaps, bottom, name, seq, v, ok, want, is)
					}
				}
			}
		}
	}
}

// P16.3: what is kept shares no memory with the list; the room behind the ends of what is handed in stays.
func TestKeepShares(t *testing.T) {
	list := changes("a9 a7 b3- c2")
	room := changes("a9 a7 b3- c2")
	snaps := []uint64{7, 3, 1}
	Keep(list[:2], snaps[:2], true)
	got := Keep(list, snaps[:1], true)
	clear(got)
	if !slices.Equal(list, room) || !slices.Equal(snaps, []uint64{7, 3, 1}) {
		t.Error(shown(list), snaps)
	}
	got = Keep(list, nil, false)
	clear(list)
	if shown(got) != "a9 b3- c2" {
		t.Error(shown(got))
	}
}

// P16.3, P16.4: lists that no rule has put in order end, too.
func TestKeepWrong(t *testing.T) {
	list := []key.Entry{{}, {Seq: math.MaxUint64}, {Key: "b"}, {Key: "a"}, {Key: "b", Seq: 9, Del: true, Val: "v"}, {}}
	for _, bottom := range []bool{false, true} {
		if got := Keep(list[:1], []uint64{0, math.MaxUint64}, bottom); len(got) != 1 {
			t.Error(got)
		}
		Keep(list, []uint64{0, math.MaxUint64, 9}, bottom)
	}
	for _, size := range []int{math.MinInt, 0, 1, math.MaxInt} {
		if got := slices.Concat(Cut(list, size)...); !slices.Equal(got, list) {
			t.Error(size, got)
		}
	}
}

// parts is how many changes each part has.
func parts(list [][]key.Entry) []int {
	var all []int
	for _, one := range list {
		all = append(all, len(one))
	}
	return all
}

// P16.4: parts of so many bytes, that end where another key comes.
func TestCut(t *testing.T) {
	// Of each change the key has one byte, and the value so many more.
	of := func(s string, sizes ...int) []key.Entry {
		list := changes(s)
		for i := range list {
			list[i].Val = strings.Repeat("v", sizes[i]-1)
		}
		return list
	}
	abc := of("a9 b9 c9", 10, 10, 10)
	long := of("a9 b9 b8 b7 c1", 10, 10, 10, 10, 10)
	for what, c := range map[string]struct {
		list []key.Entry
		size int
		want []int
	}{
		"nothing":               {nil, 1, nil},
		"nothing, by 0":         {nil, 0, nil},
		"one":                   {abc[:1], 100, []int{1}},
		"one by one":            {abc, 10, []int{1, 1, 1}},
		"a byte less":           {abc, 9, []int{1, 1, 1}},
		"a byte more":           {abc, 11, []int{2, 1}},
		"two and one":           {abc, 20, []int{2, 1}},
		"all":                   {abc, 21, []int{3}},
		"just all":              {abc, 30, []int{3}},
		"more than all":         {abc, 31, []int{3}},
		"by 0":                  {abc, 0, []int{1, 1, 1}},
		"below 0":               {abc, -7, []int{1, 1, 1}},
		"by the greatest":       {abc, math.MaxInt, []int{3}},
		"no key in two":         {long, 20, []int{4, 1}},
		"no key in two, by 1":   {long, 1, []int{1, 3, 1}},
		"full within a key":     {long, 11, []int{4, 1}},
		"full at a key's end":   {long, 40, []int{4, 1}},
		"behind a key's end":    {long, 41, []int{5}},
		"a key alone":           {long[1:4], 1, []int{3}},
		"keys of no value":      {of("a1 b1 c1 d1 e1", 1, 1, 1, 1, 1), 2, []int{2, 2, 1}},
		"the sum begins anew":   {of("a1 b1 c1 d1", 15, 4, 5, 1), 10, []int{1, 3}},
		"a great one in middle": {of("a1 b1 c1 d1", 1, 50, 1, 1), 10, []int{2, 2}},
	} {
		had := shown(c.list)
		got := Cut(c.list, c.size)
		if !slices.Equal(parts(got), c.want) || !slices.Equal(slices.Concat(got...), c.list) {
			t.Errorf("Cut, %s: %v, want %v", what, parts(got), c.want)
		}
		if shown(c.list) != had {
			t.Errorf("Cut, %s: the list was turned", what)
		}
	}
	// Keys count as well as values.
	if got := parts(Cut([]key.Entry{{Key: "aaaaa"}, {Key: "bbbbb"}, {Key: "c"}}, 5)); !slices.Equal(got, []int{1, 1, 1}) {
		t.Error("keys alone:", got)
	}
}

// cuts is what Cut has to answer, as the document says it.
func cuts(list []key.Entry, size int) []int {
	var all []int
	n, bytes := 0, 0
	for i, x := range list {
		n++
		bytes += len(x.Key + x.Val)
		last := i == len(list)-1
		if last || bytes >= size && cmp.Compare(list[i+1].Key, x.Key) != 0 {
			all = append(all, n)
			n, bytes = 0, 0
		}
	}
	return all
}

// P16.4: Cut, held against the document's words; parts share no memory, with the list or with each other.
func TestCutRolled(t *testing.T) {
	r := dice(11)
	for range 3000 {
		list := rolledList(&r, r.roll(40), 30)
		size := r.roll(80)
		got := Cut(list, size)
		if want := cuts(list, size); !slices.Equal(parts(got), want) || !slices.Equal(slices.Concat(got...), list) {
			t.Fatalf("Cut of %s by %d: %v, want %v", shown(list), size, parts(got), want)
		}
		had := slices.Clone(list)
		for i := range got {
			rest := slices.Concat(got[i+1:]...)
			clear(got[i][:cap(got[i])])
			if !slices.Equal(slices.Concat(got[i+1:]...), rest) || !slices.Equal(list, had) {
				t.Fatal("Cut shares its parts")
			}
		}
	}
}
