package cursor

import (
	"fmt"
	"math"
	"slices"
	"strings"
	"testing"

	"tailrace/api"
	"tailrace/disk"
	"tailrace/file"
	"tailrace/key"
)

// next tells whether Peek and Next both answer this change.
func next(t *testing.T, what string, c *Cursor, want key.Entry) {
	t.Helper()
	for range 2 {
		if x, ok, e := c.Peek(); x != want || !ok || e != api.OK {
			t.Fatalf("%s: Peek: %q %d %v %d, want %q %d", what, x.Key, x.Seq, ok, e, want.Key, want.Seq)
		}
	}
	if x, ok, e := c.Next(); x != want || !ok || e != api.OK {
		t.Fatalf("%s: Next: %q %d %v %d, want %q %d", what, x.Key, x.Seq, ok, e, want.Key, want.Seq)
	}
}

// stops tells whether Peek and Next both answer that there is nothing, with this error.
func stops(t *testing.T, what string, c *Cursor, want api.Errno) {
	t.Helper()
	for range 2 {
		if x, ok, e := c.Peek(); x != (key.Entry{}) || ok || e != want {
			t.Fatalf("%s: Peek at the end: %q %v %d, want %d", what, x.Key, ok, e, want)
		}
		if x, ok, e := c.Next(); x != (key.Entry{}) || ok || e != want {
			t.Fatalf("%s: Next at the end: %q %v %d, want %d", what, x.Key, ok, e, want)
		}
	}
}

// through tells whether a cursor goes through just these.
func through(t *testing.T, what string, c *Cursor, list []key.Entry) {
	t.Helper()
	for i, x := range list {
		next(t, fmt.Sprint(what, " ", i), c, x)
	}
	stops(t, what, c, api.OK)
}

// fails tells whether all calls answer this error, and nothing beside it.
func fails(t *testing.T, what string, c *Cursor, want api.Errno) {
	t.Helper()
	stops(t, what, c, want)
	must(t, what+": Seek", c.Seek(key.Entry{}), want)
	must(t, what+": Seek far", c.Seek(key.Entry{Key: "zzz"}), want)
	for _, most := range []int{-1, 0, 1, 100} {
		if list, e := c.Live("", "", 5, most); len(list) != 0 || e != want {
			t.Errorf("%s: Live of %d: %d changes, %d, want %d", what, most, len(list), e, want)
		}
	}
	if list, e := c.Live("", "", key.MaxSeq+1, 1); len(list) != 0 || e != api.ErrArg {
		t.Errorf("%s: Live of too great a number: %d", what, e)
	}
	stops(t, what, c, want)
}

// lives tells whether Live answers just these.
func lives(t *testing.T, what string, got []key.Entry, e api.Errno, want []key.Entry) {
	t.Helper()
	if e != api.OK || !slices.Equal(got, want) {
		t.Errorf("%s: Live: %d changes, %d, want %d", what, len(got), e, len(want))
	}
}

// P14.1: the kinds are numbers one behind the other.
func TestKinds(t *testing.T) {
	if OfList != 1 || OfFile != 2 || OfMany != 3 {
		t.Error(OfList, OfFile, OfMany)
	}
}

// P14.1: a list, a file, and several of them, up to their ends.
func TestThrough(t *testing.T) {
	list := sized(30)
	_, f := filed(t, list)
	through(t, "list", List(list), list)
	through(t, "file", File(f), list)
	through(t, "file again", File(f), list)
	through(t, "one", Many(List(list)), list)
	var odd, even []key.Entry
	for i, x := range list {
		if i%2 == 0 {
			even = append(even, x)
		} else {
			odd = append(odd, x)
		}
	}
	_, f = filed(t, odd)
	through(t, "two", Many(File(f), List(even)), list)
	through(t, "two, the other way round", Many(List(even), File(f)), list)
	through(t, "behind one another", Many(List(list[20:]), List(list[:5]), List(list[5:20])), list)
	through(t, "within one another", Many(Many(List(list[20:])), Many(), Many(Many(List(list[:5])), List(list[5:20]))), list)
}

// P14.1: those that go through nothing.
func TestThroughNothing(t *testing.T) {
	for what, c := range map[string]func() *Cursor{
		"nil list":     func() *Cursor { return List(nil) },
		"empty list":   func() *Cursor { return List([]key.Entry{}) },
		"nil file":     func() *Cursor { return File(nil) },
		"zero file":    func() *Cursor { return File(&file.File{}) },
		"none":         func() *Cursor { return Many() },
		"several":      func() *Cursor { return Many(List(nil), File(nil), Many()) },
		"nil ones":     func() *Cursor { return Many(nil, nil) },
		"zero":         func() *Cursor { return &Cursor{} },
		"several more": func() *Cursor { return Many(&Cursor{}, Many(nil)) },
	} {
		if c() == nil {
			t.Fatal(what)
		}
		through(t, what, c(), nil)
		x := c()
		must(t, what, x.Seek(key.Entry{Key: "a", Seq: 1}), api.OK)
		stops(t, what, x, api.OK)
		got, e := c().Live("", "", key.MaxSeq, 5)
		lives(t, what, got, e, nil)
	}
	list := sized(3)
	through(t, "beside nil", Many(nil, List(list), nil), list)
}

// P14.1, P14.2: a nil Cursor.
func TestNil(t *testing.T) {
	var c *Cursor
	fails(t, "nil", c, api.ErrArg)
}

// P14.1: of alike ones those of the earlier cursor first, all of them.
func TestAlike(t *testing.T) {
	change := func(k string, seq uint64, val string) key.Entry { return key.Entry{Key: k, Seq: seq, Val: val} }
	a := []key.Entry{change("a", 5, "a"), change("a", 5, "aa"), change("b", 3, "a")}
	b := []key.Entry{change("a", 6, "b"), change("a", 5, "b"), change("b", 3, "b")}
	c := []key.Entry{change("a", 5, "c"), change("b", 3, "c"), change("b", 2, "c")}
	_, f := filed(t, b)
	want := []key.Entry{b[0], a[0], a[1], b[1], c[0], a[2], b[2], c[1], c[2]}
	through(t, "in one", Many(List(a), File(f), List(c)), want)
	through(t, "in two", Many(Many(List(a), File(f)), List(c)), want)
	through(t, "in two others", Many(List(a), Many(File(f), List(c))), want)
	through(t, "the other way round", Many(List(c), List(b), List(a)), []key.Entry{b[0], c[0], b[1], a[0], a[1], c[1], b[2], a[2], c[2]})
	got, e := Many(List(c), List(b), List(a)).Live("", "", 5, 9)
	lives(t, "alike", got, e, []key.Entry{c[0], c[1]})
	got, e = Many(List(a), List(c)).Live("", "", 9, 9)
	lives(t, "alike", got, e, []key.Entry{a[0], a[2]})
	// One that is gone counts as any other one.
	gone := []key.Entry{{Key: "a", Seq: 5, Del: true}}
	got, e = Many(List(gone), List(a)).Live("", "", 9, 9)
	lives(t, "gone first", got, e, a[2:])
	got, e = Many(List(a), List(gone)).Live("", "", 9, 9)
	lives(t, "gone behind", got, e, []key.Entry{a[0], a[2]})
}

// P14.1: what a cursor goes through is as it was when it was made, and what it was made of isn't turned.
func TestSharesNothing(t *testing.T) {
	list := sized(10)
	had := slices.Clone(list)
	c := List(list[:5])
	all := []*Cursor{List(list[5:7]), c, List(list[7:8])}
	m := Many(all[:2]...)
	if all[1] != c || all[2] == nil {
		t.Error("Many turned its cursors")
	}
	clear(list)
	clear(all)
	got, e := List(had).Live("", "", 50, 3)
	lives(t, "list", got, e, had[:3])
	through(t, "of lists that are gone", m, had[:7])
	kept := slices.Clone(had)
	through(t, "list", List(had[:5]), kept[:5])
	got, _ = List(had).Live("", "", 50, 3)
	clear(got)
	if !slices.Equal(had, kept) {
		t.Error("List turned its list")
	}
}

// P14.1: in many orders of calls, what was sought and what was taken is gone, and nothing else.
func TestWalk(t *testing.T) {
	for seed := range 400 {
		r := dice(seed)
		c, rest := grown(t, &r, 3)
		for i := range 60 {
			what := fmt.Sprint("seed ", seed, " step ", i)
			switch k := r.roll(8); {
			case k < 2:
				x := key.Entry{Key: strings.Repeat("\x00a\xff"[r.roll(3):][:1], r.roll(4)), Seq: uint64(r.roll(14)), Del: r.roll(2) == 0, Val: "x"}
				if k == 1 && len(rest) > 0 {
					x = rest[r.roll(min(5, len(rest)))]
				}
				must(t, what, c.Seek(x), api.OK)
				for len(rest) > 0 && rest[0].Cmp(x) < 0 {
					rest = rest[1:]
				}
			case k < 4 && len(rest) > 0:
				if x, ok, e := c.Peek(); x != rest[0] || !ok || e != api.OK {
					t.Fatalf("%s: Peek: %q %d %v %d", what, x.Key, x.Seq, ok, e)
				}
			case len(rest) > 0:
				if x, ok, e := c.Next(); x != rest[0] || !ok || e != api.OK {
					t.Fatalf("%s: Next: %q %d %v %d, want %q %d", what, x.Key, x.Seq, ok, e, rest[0].Key, rest[0].Seq)
				}
				rest = rest[1:]
			default:
				stops(t, what, c, api.OK)
			}
		}
		through(t, fmt.Sprint("seed ", seed), c, rest)
	}
}

// P14.1: Seek to each change, and beside each, ahead of the first call and behind others.
func TestSeek(t *testing.T) {
	list := sized(22)
	_, f := filed(t, list)
	kinds := map[string]func() *Cursor{
		"list": func() *Cursor { return List(list) },
		"file": func() *Cursor { return File(f) },
		"many": func() *Cursor { return Many(File(f), List(nil)) },
		"two":  func() *Cursor { return Many(List(list[10:]), List(list[:10])) },
	}
	for what, kind := range kinds {
		for i, x := range list {
			for by, y := range []key.Entry{x, {Key: x.Key, Seq: math.MaxUint64}, {Key: x.Key, Seq: x.Seq, Del: true}, {Key: x.Key, Seq: x.Seq - 1}, {Key: x.Key + "\x00"}} {
				at := i
				if by > 2 {
					at++
				}
				for taken := range 9 {
					c := kind()
					for range taken {
						c.Next()
					}
					must(t, what, c.Seek(y), api.OK)
					must(t, what, c.Seek(list[0]), api.OK)
					through(t, fmt.Sprint(what, " ", i, " ", by, " ", taken), c, list[max(at, taken):])
				}
			}
		}
	}
}

// P14.2: as the document's example tells it.
func TestLiveExample(t *testing.T) {
	list := []key.Entry{{Key: "a", Seq: 5, Val: "x"}, {Key: "b", Seq: 4, Del: true}, {Key: "b", Seq: 2, Val: "y"}, {Key: "c", Seq: 9, Val: "z"}}
	got, e := List(list).Live("", "", 8, 10)
	lives(t, "to 8", got, e, list[:1])
	got, e = List(list).Live("", "", 3, 10)
	lives(t, "to 3", got, e, list[2:3])
	got, e = List(list).Live("", "", 9, 10)
	lives(t, "to 9", got, e, []key.Entry{list[0], list[3]})
}

// P14.2: all bounds, on cursors of all kinds, from wherever they are on.
func TestLiveAsTold(t *testing.T) {
	ends := []string{"", "\x00", "\x00\x00", "a", "a\x00", "aa", "aaa", "b", "\xff", "\xff\xff\xff", "\xff\xff\xff\xff"}
	for seed := range 1500 {
		r := dice(seed)
		c, rest := grown(t, &r, 2)
		for range r.roll(2) * r.roll(6) {
			if _, ok, _ := c.Next(); ok {
				rest = rest[1:]
			}
		}
		if r.roll(2) == 0 {
			c.Peek()
		}
		from, to := ends[r.roll(len(ends))], ends[r.roll(len(ends))]
		if r.roll(2) == 0 {
			to = ""
		}
		seq := []uint64{0, 3, 5, 8, 11, 12, key.MaxSeq}[r.roll(7)]
		most := []int{math.MinInt, -1, 0, 1, 2, 3, 8, 100, math.MaxInt}[r.roll(9)]
		got, e := c.Live(from, to, seq, most)
		lives(t, fmt.Sprintf("seed %d: %q to %q, up to %d, %d at most", seed, from, to, seq, most), got, e, live(rest, from, to, seq, most))
	}
}

// P14.2: a number above MaxSeq, and MaxSeq.
func TestLiveBounds(t *testing.T) {
	list := []key.Entry{{Key: "a", Seq: key.MaxSeq, Val: "x"}, {Key: "a", Seq: 1, Val: "y"}}
	for _, seq := range []uint64{key.MaxSeq + 1, math.MaxUint64} {
		c := List(list)
		if got, e := c.Live("", "", seq, 5); len(got) != 0 || e != api.ErrArg {
			t.Errorf("Live up to %d: %d", seq, e)
		}
		// An error that isn't a page's turns nothing.
		through(t, "behind ErrArg", c, list)
	}
	got, e := List(list).Live("a", "", key.MaxSeq, 5)
	lives(t, "MaxSeq", got, e, list[:1])
	got, e = List(list).Live("a", "a\x00", key.MaxSeq-1, 5)
	lives(t, "one less", got, e, list[1:])
	// A list may have what no file has: the empty key is one as any other.
	none := []key.Entry{{Seq: 3, Val: "x"}, {Seq: 2, Val: "y"}, {Key: "a", Seq: 1, Val: "z"}}
	got, e = List(none).Live("", "", 3, 5)
	lives(t, "the empty key", got, e, []key.Entry{none[0], none[2]})
	// Of a key of which the newest was taken another one is the newest.
	c := List(list)
	c.Next()
	got, e = c.Live("", "", key.MaxSeq, 5)
	lives(t, "behind the newest", got, e, list[1:])
}

// P14.1: a page that can't be read is told when it is asked for, not sooner, by all calls from then on.
func TestBadPage(t *testing.T) {
	beside := []key.Entry{{Key: "k000a", Val: "x"}, {Key: "zz", Val: "y"}}
	kinds := map[string]func(f *file.File) *Cursor{
		"file":   func(f *file.File) *Cursor { return File(f) },
		"one":    func(f *file.File) *Cursor { return Many(File(f)) },
		"many":   func(f *file.File) *Cursor { return Many(List(beside), File(f)) },
		"others": func(f *file.File) *Cursor { return Many(Many(File(f), List(beside[:1])), Many(List(beside[1:]))) },
	}
	for what, kind := range kinds {
		_, f, list := wide(t, 5, 2)
		all := slices.Clone(list)
		if what != "file" && what != "one" {
			all = append(slices.Insert(all, 1, beside[0]), beside[1])
		}
		bad := slices.Index(all, list[8])

		c := kind(f)
		for i := range bad {
			next(t, what, c, all[i])
		}
		fails(t, what+": Next", c, api.ErrBad)

		c = kind(f)
		for range bad {
			c.Next()
		}
		must(t, what+": Seek behind what is read", c.Seek(list[5]), api.OK)
		must(t, what+": Seek to the page", c.Seek(list[9]), api.ErrBad)
		fails(t, what+": Seek", c, api.ErrBad)

		c = kind(f)
		must(t, what+": Seek ahead of it", c.Seek(list[7]), api.OK)
		next(t, what, c, list[7])
		fails(t, what+": behind Seek", c, api.ErrBad)

		// A page that is left out isn't read.
		c = kind(f)
		must(t, what+": Seek over it", c.Seek(list[12]), api.OK)
		through(t, what+": Seek over it", c, all[slices.Index(all, list[12]):])
		c = kind(f)
		next(t, what, c, all[0])
		must(t, what+": Seek over it, behind the first", c.Seek(key.Entry{Key: "k011a"}), api.OK)
		next(t, what, c, list[12])
		c = kind(f)
		must(t, what+": Seek behind all", c.Seek(key.Entry{Key: "zzz"}), api.OK)
		stops(t, what, c, api.OK)

		liveBadPage(t, what, kind, f, list, all[:bad])
	}
}

// liveBadPage is the same by Live: of a file whose third page of five can't be read, and what is ahead of that.
func liveBadPage(t *testing.T, what string, kind func(f *file.File) *Cursor, f *file.File, list, ahead []key.Entry) {
	t.Helper()
	c := kind(f)
	if got, e := c.Live("", "", 500, len(ahead)+1); len(got) != 0 || e != api.ErrBad {
		t.Errorf("%s: Live: %d changes, %d", what, len(got), e)
	}
	fails(t, what+": Live", c, api.ErrBad)
	got, e := kind(f).Live("", "", 500, len(ahead))
	lives(t, what+": as many as are ahead", got, e, ahead)
	got, e = kind(f).Live("", list[7].Key, 500, 100)
	lives(t, what+": keys that are ahead", got, e, ahead[:len(ahead)-1])
	got, e = kind(f).Live(list[12].Key, "zz", 500, 100)
	lives(t, what+": keys that are behind", got, e, list[12:])
	if got, e := kind(f).Live(list[10].Key, "", 500, 1); len(got) != 0 || e != api.ErrBad {
		t.Errorf("%s: Live from the page on: %d changes, %d", what, len(got), e)
	}
}

// P14.1: the power goes; what is read is told still; and the error stays when the power is on again.
func TestPowerOff(t *testing.T) {
	off := func(d *disk.Disk) {
		d.Fuse(1)
		d.Create("x")
		if !d.Down() {
			t.Fatal("the power is on")
		}
	}
	for what, kind := range map[string]func(f *file.File) *Cursor{
		"file": func(f *file.File) *Cursor { return File(f) },
		"many": func(f *file.File) *Cursor { return Many(List(nil), File(f)) },
	} {
		d, f, list := wide(t, 3)
		c, fresh, sought := kind(f), kind(f), kind(f)
		next(t, what, c, list[0])
		off(d)
		for i := 1; i < 4; i++ {
			next(t, what, c, list[i])
		}
		fails(t, what, c, api.ErrDown)
		fails(t, what+" with nothing read", fresh, api.ErrDown)
		must(t, what, sought.Seek(list[0]), api.ErrDown)
		d.Crash(nil)
		fails(t, what+" with the power on again", c, api.ErrDown)
		fails(t, what+" with the power on again, with nothing read", fresh, api.ErrDown)
		fails(t, what+" with the power on again, sought", sought, api.ErrDown)
		through(t, what+" made anew", kind(f), list)

		c = kind(f)
		off(d)
		got, e := c.Live("", "", 5, 0)
		lives(t, what+": none", got, e, nil)
		d.Crash(nil)
		through(t, what+": where nothing was read", c, list)
	}
}

// P14.1: one cursor that fails among several: it is told when what comes next of it is asked for.
func TestOneFails(t *testing.T) {
	_, f, list := wide(t, 3, 0)
	ahead := []key.Entry{{Key: "a", Val: "x"}, {Key: "b", Val: "y"}}
	// What is first isn't known till the page is read.
	fails(t, "first page", Many(List(ahead), File(f)), api.ErrBad)
	c := Many(List(ahead), File(f))
	must(t, "Seek over it", c.Seek(list[4]), api.OK)
	through(t, "Seek over it", c, list[4:])
	// One that has failed ahead stays so.
	failed := File(f)
	failed.Next()
	fails(t, "failed ahead", Many(List(ahead), failed), api.ErrBad)
	c = Many(List(ahead), failed)
	must(t, "Seek", c.Seek(list[4]), api.ErrBad)
	fails(t, "failed ahead of Seek", c, api.ErrBad)
}

// P14.1: many cursors, and cursors deep within one another.
func TestManyAndDeep(t *testing.T) {
	var all []*Cursor
	var want []key.Entry
	for i := range 20000 {
		x := key.Entry{Key: fmt.Sprint("k", i*7919%20000), Seq: 1, Val: fmt.Sprint(i)}
		all, want = append(all, List([]key.Entry{x})), append(want, x)
	}
	slices.SortFunc(want, key.Entry.Cmp)
	c := Many(all...)
	for _, x := range want {
		if y, ok, e := c.Next(); x != y || !ok || e != api.OK {
			t.Fatalf("many: %q, want %q", y.Key, x.Key)
		}
	}
	stops(t, "many", c, api.OK)

	list := sized(40)
	c = List(list[:1])
	for i := range 1<<16 - 10 {
		if i%2000 == 1 && i/2000 < 30 {
			c = Many(List(list[1+i/2000:2+i/2000]), c)
		} else {
			c = Many(c)
		}
	}
	must(t, "deep", c.Seek(list[0]), api.OK)
	through(t, "deep", c, list[:31])
}

// P14.1: one cursor that is handed in twice: whatever is answered, it ends.
func TestTwice(t *testing.T) {
	list := sized(9)
	one := List(list)
	c := Many(one, one, Many(one))
	for i := range 100 {
		_, ok, e := c.Next()
		if e != api.OK {
			t.Fatal(e)
		}
		if !ok {
			break
		}
		if i == 99 {
			t.Error("it doesn't end")
		}
	}
}
