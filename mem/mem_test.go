package mem

import (
	"fmt"
	"math"
	"slices"
	"strings"
	"testing"

	"tailrace/api"
	"tailrace/key"
)

// filled is a Table with these changes.
func filled(t *testing.T, list ...key.Entry) *Table {
	t.Helper()
	m := New()
	for _, x := range list {
		if e := m.Add(x); e != api.OK {
			t.Errorf("Add of %q %d: %d", x.Key, x.Seq, e)
		}
	}
	return m
}

// size is what a Table of these changes counts.
func size(list []key.Entry) int {
	n := 0
	for _, x := range list {
		n += len(x.Key) + len(x.Val) + 16
	}
	return n
}

// keeps tells whether a Table has just these changes, in this order.
func keeps(t *testing.T, what string, m *Table, want ...key.Entry) {
	t.Helper()
	if got := m.All(); !slices.Equal(got, want) {
		t.Errorf("%s: All: %v, want %v", what, got, want)
	}
	if m.Len() != len(want) || m.Size() != size(want) {
		t.Errorf("%s: Len %d, Size %d, want %d, %d", what, m.Len(), m.Size(), len(want), size(want))
	}
	for i, x := range want {
		if got, ok := m.At(i); !ok || got != x {
			t.Errorf("%s: At(%d): %v %v, want %v", what, i, got, ok, x)
		}
		if got := m.From(x); got != i {
			t.Errorf("%s: From(%v): %d, want %d", what, x, got, i)
		}
	}
	for _, i := range beyond(len(want)) {
		if x, ok := m.At(i); ok || x != (key.Entry{}) {
			t.Errorf("%s: At(%d): %v %v", what, i, x, ok)
		}
	}
}

// finds tells whether the change that Get answers is the one that is wanted; none, if it has no Key.
func finds(t *testing.T, m *Table, name string, seq uint64, want key.Entry) {
	t.Helper()
	if got, ok := m.Get(name, seq); got != want || ok != (want.Key != "") {
		t.Errorf("Get(%q, %d): %v %v, want %v", name, seq, got, ok, want)
	}
}

// P10.2: the chapter's example.
func TestTableExample(t *testing.T) {
	five, seven := key.Entry{Key: "a", Seq: 5, Val: "x"}, key.Entry{Key: "a", Seq: 7, Val: "y"}
	m := filled(t, five, seven)
	for seq := range uint64(5) {
		finds(t, m, "a", seq, key.Entry{})
	}
	finds(t, m, "a", 5, five)
	finds(t, m, "a", 6, five)
	finds(t, m, "a", 7, seven)
	finds(t, m, "a", 9, seven)
}

// P10.2: a new one has nothing.
func TestTableNew(t *testing.T) {
	keeps(t, "new", New())
	finds(t, New(), "a", key.MaxSeq, key.Entry{})
	finds(t, New(), "", 0, key.Entry{})
	if New() == New() || New().From(key.Entry{Key: "a"}) != 0 {
		t.Error("New")
	}
}

// P10.2: changes in whatever order they come stand by key, the newest of each first.
func TestTableOrder(t *testing.T) {
	want := []key.Entry{
		{Key: "\x00", Seq: 3, Val: "nought"},
		{Key: "a", Seq: key.MaxSeq, Val: "last"},
		{Key: "a", Seq: 7, Del: true},
		{Key: "a", Seq: 6},
		{Key: "a", Seq: 0, Val: "first"},
		{Key: "a\x00", Seq: 9, Val: "longer"},
		{Key: "aa", Seq: 1},
		{Key: "b", Seq: 7, Val: "beside"},
		{Key: "\xff", Seq: 2, Del: true},
	}
	for seed := range 50 {
		r := dice(seed)
		list := slices.Clone(want)
		for i := range list {
			j := i + r.roll(len(list)-i)
			list[i], list[j] = list[j], list[i]
		}
		keeps(t, fmt.Sprint("order ", seed), filled(t, list...), want...)
	}
}

// P10.2: layer 6's Check, with its errors.
func TestTableCheck(t *testing.T) {
	long, longVal := strings.Repeat("k", api.MaxKey), strings.Repeat("v", api.MaxVal)
	a := key.Entry{Key: "a", Seq: 1, Val: "x"}
	m := filled(t, a)
	for _, c := range []struct {
		x key.Entry
		e api.Errno
	}{
		{key.Entry{}, api.ErrArg},
		{key.Entry{Seq: 1, Val: "x"}, api.ErrArg},
		{key.Entry{Key: "a", Seq: key.MaxSeq + 1}, api.ErrArg},
		{key.Entry{Key: "a", Seq: math.MaxUint64}, api.ErrArg},
		{key.Entry{Key: "b", Seq: 1, Del: true, Val: "x"}, api.ErrArg},
		{key.Entry{Key: long + "k", Seq: 1}, api.ErrLong},
		{key.Entry{Key: "b", Seq: 1, Val: longVal + "v"}, api.ErrLong},
		{key.Entry{Key: long + "k", Seq: key.MaxSeq + 1}, api.ErrArg},
		// The Check comes ahead of what is there.
		{key.Entry{Key: "a", Seq: 1, Del: true, Val: "x"}, api.ErrArg},
		{key.Entry{Key: "a", Seq: 1, Val: longVal + "v"}, api.ErrLong},
	} {
		if e := m.Add(c.x); e != c.e {
			t.Errorf("Add of %d bytes, %d, %v, %d bytes: %d, want %d", len(c.x.Key), c.x.Seq, c.x.Del, len(c.x.Val), e, c.e)
		}
	}
	keeps(t, "refused", m, a)
	keeps(t, "the greatest", filled(t, key.Entry{Key: long, Seq: key.MaxSeq, Val: longVal}), key.Entry{Key: long, Seq: key.MaxSeq, Val: longVal})
}

// P10.2: a change of a Key and Seq that are there is refused, whatever else it is, and that one stays.
func TestTableHave(t *testing.T) {
	list := []key.Entry{{Key: "a", Seq: 7, Val: "x"}, {Key: "a", Seq: 5, Del: true}, {Key: "b", Seq: 5}}
	m := filled(t, list...)
	for _, x := range []key.Entry{
		{Key: "a", Seq: 7, Val: "x"}, {Key: "a", Seq: 7, Val: "other"}, {Key: "a", Seq: 7, Del: true}, {Key: "a", Seq: 7},
		{Key: "a", Seq: 5, Del: true}, {Key: "a", Seq: 5, Val: "x"}, {Key: "b", Seq: 5}, {Key: "b", Seq: 5, Val: "long"},
	} {
		if e := m.Add(x); e != api.ErrHave {
			t.Errorf("Add of %v: %d, want ErrHave", x, e)
		}
	}
	keeps(t, "refused", m, list...)
	six := key.Entry{Key: "a", Seq: 6, Val: "between"}
	if e := m.Add(six); e != api.OK {
		t.Errorf("Add between: %d", e)
	}
	keeps(t, "between", m, list[0], six, list[1], list[2])
}

// P10.2: Get, of each key and around each number: those of other keys don't count, and one that is Del is a change as well.
func TestTableGet(t *testing.T) {
	list := []key.Entry{
		{Key: "a", Seq: key.MaxSeq, Val: "last"}, {Key: "a", Seq: 9, Del: true}, {Key: "a", Seq: 4, Val: "four"},
		{Key: "a\x00", Seq: 2, Val: "two"}, {Key: "b", Seq: 6}, {Key: "b", Seq: 0, Val: "first"}, {Key: "c", Seq: 8, Val: "eight"},
	}
	m := filled(t, list...)
	for _, name := range []string{"", "\x00", "A", "a", "a\x00", "a\x01", "aa", "b", "b\x00", "c", "cc", "d", strings.Repeat("a", 500)} {
		for _, seq := range []uint64{0, 1, 2, 3, 4, 5, 6, 7, 8, 9, 10, 1 << 32, key.MaxSeq - 1, key.MaxSeq, key.MaxSeq + 1, math.MaxUint64} {
			want := key.Entry{}
			for _, x := range list {
				if x.Key == name && x.Seq <= seq && (want.Key == "" || x.Seq > want.Seq) {
					want = x
				}
			}
			finds(t, m, name, seq, want)
		}
	}
	keeps(t, "asked", m, list...)
}

// P10.2: From counts what is ahead of any entry, one that isn't right among them.
func TestTableFrom(t *testing.T) {
	list := []key.Entry{{Key: "a", Seq: 7}, {Key: "a", Seq: 5}, {Key: "c", Seq: 9}, {Key: "c", Seq: 0}}
	m := filled(t, list...)
	for _, c := range []struct {
		x    key.Entry
		want int
	}{
		{key.Entry{}, 0}, {key.Entry{Key: "a", Seq: math.MaxUint64}, 0}, {key.Entry{Key: "a", Seq: 8}, 0}, {key.Entry{Key: "a", Seq: 7, Del: true}, 0},
		{key.Entry{Key: "a", Seq: 6}, 1}, {key.Entry{Key: "a", Seq: 5, Val: "x"}, 1}, {key.Entry{Key: "a", Seq: 4}, 2}, {key.Entry{Key: "a"}, 2},
		{key.Entry{Key: "b", Seq: 7}, 2}, {key.Entry{Key: "c", Seq: 10}, 2}, {key.Entry{Key: "c", Seq: 1}, 3}, {key.Entry{Key: "c"}, 3},
		{key.Entry{Key: "c\x00", Seq: 9}, 4}, {key.Entry{Key: strings.Repeat("d", 500)}, 4},
	} {
		if got := m.From(c.x); got != c.want {
			t.Errorf("From(%q, %d): %d, want %d", c.x.Key, c.x.Seq, got, c.want)
		}
	}
}

// P10.2: what All answers is new memory, with what was there when it was asked.
func TestTableAll(t *testing.T) {
	a, b := key.Entry{Key: "a", Seq: 1, Val: "x"}, key.Entry{Key: "b", Seq: 2}
	m := filled(t, b, a)
	all := m.All()
	all[0] = key.Entry{Key: "turned"}
	_ = append(all[:1], key.Entry{Key: "turned"})
	keeps(t, "turned outside", m, a, b)
	all = m.All()
	room := all[:cap(all)]
	clear(room[len(all):])
	c := key.Entry{Key: "c", Seq: 3}
	if e := m.Add(c); e != api.OK || !slices.Equal(all, []key.Entry{a, b}) {
		t.Errorf("Add: %d %v", e, all)
	}
	keeps(t, "added", m, a, b, c)
}

// P10.2: a nil Table has none; nor has one that New didn't make.
func TestNilTable(t *testing.T) {
	for what, m := range map[string]*Table{"nil": nil, "empty": {}} {
		for _, x := range []key.Entry{{Key: "a", Seq: 1}, {}, {Key: strings.Repeat("k", 129)}} {
			if e := m.Add(x); e != api.ErrArg {
				t.Errorf("%s: Add: %d", what, e)
			}
		}
		keeps(t, what, m)
		finds(t, m, "a", 1, key.Entry{})
		if m.From(key.Entry{Key: "z"}) != 0 {
			t.Errorf("%s: From", what)
		}
	}
}

// P10.2: many changes answer as a plain list does.
func TestTableWalk(t *testing.T) {
	for seed := range 20 {
		r := dice(seed)
		m := New()
		var list []key.Entry
		for range 200 {
			x := key.Entry{Key: fmt.Sprint("k", r.roll(12)), Seq: uint64(r.roll(40)), Del: r.roll(3) == 0}
			if !x.Del {
				x.Val = strings.Repeat("v", r.roll(9))
			}
			want := api.OK
			if slices.ContainsFunc(list, func(y key.Entry) bool { return y.Key == x.Key && y.Seq == x.Seq }) {
				want = api.ErrHave
			} else {
				list = append(list, x)
			}
			if e := m.Add(x); e != want {
				t.Fatalf("seed %d: Add of %v: %d, want %d", seed, x, e, want)
			}
			name, seq, found := fmt.Sprint("k", r.roll(13)), uint64(r.roll(45)), key.Entry{}
			for _, y := range list {
				if y.Key == name && y.Seq <= seq && (found.Key == "" || y.Seq > found.Seq) {
					found = y
				}
			}
			finds(t, m, name, seq, found)
		}
		slices.SortFunc(list, key.Entry.Cmp)
		keeps(t, fmt.Sprint("seed ", seed), m, list...)
	}
}
