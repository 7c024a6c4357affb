package file

import (
	"cmp"
	"fmt"
	"math"
	"slices"
	"strings"
	"testing"

	"tailrace/api"
	"tailrace/disk"
	"tailrace/key"
)

// without is a change without its Val.
func without(x key.Entry) key.Entry {
	x.Val = ""
	return x
}

// near is changes that are asked for: those of a list, and what stands beside them.
func near(list []key.Entry) []key.Entry {
	all := []key.Entry{{}, {Key: "\x00"}, {Key: "zzz", Seq: 5}, {Key: strings.Repeat("\xff", 200)}, {Key: "a", Seq: math.MaxUint64}}
	for _, x := range list {
		all = append(all, without(x), key.Entry{Key: x.Key, Seq: x.Seq + 1, Del: true}, key.Entry{Key: x.Key, Seq: x.Seq - 1, Val: "v"}, key.Entry{Key: x.Key},
			key.Entry{Key: x.Key, Seq: key.MaxSeq}, key.Entry{Key: x.Key, Seq: math.MaxUint64}, key.Entry{Key: x.Key + "\x00", Seq: x.Seq}, key.Entry{Key: x.Key[:len(x.Key)-1], Seq: x.Seq})
	}
	return all
}

// found is the page that Find has to answer.
func found(pages [][]key.Entry, y key.Entry) int {
	n := 0
	for _, one := range pages {
		if one[len(one)-1].Cmp(y) < 0 {
			n++
		}
	}
	return n
}

// newest is the change that Get has to answer.
func newest(list []key.Entry, name string, seq uint64) (key.Entry, bool) {
	for _, x := range list {
		if x.Key == name && x.Seq <= seq && seq <= key.MaxSeq {
			return x, true
		}
	}
	return key.Entry{}, false
}

// P13.2: pages, their changes, how many, and the keys at both ends; nothing is turned on the disk.
func TestOpen(t *testing.T) {
	for what, list := range lists() {
		d, x := opened(t, what, plain(list))
		pages := parted(list)
		if x.Pages() != len(pages) || x.Count() != len(list) || x.Low() != list[0].Key || x.High() != list[len(list)-1].Key {
			t.Errorf("%s: %d pages, %d changes, %q to %q", what, x.Pages(), x.Count(), x.Low(), x.High())
		}
		for i, one := range pages {
			got, e := x.Page(i)
			if e != api.OK || !slices.Equal(got, one) {
				t.Errorf("%s: Page %d: %d changes, %d", what, i, len(got), e)
			}
			clear(got)
			if again, _ := x.Page(i); !slices.Equal(again, one) {
				t.Errorf("%s: Page %d shares its changes", what, i)
			}
		}
		for _, i := range []int{-1, math.MinInt, len(pages), len(pages) + 1, math.MaxInt} {
			if got, e := x.Page(i); len(got) != 0 || e != api.ErrArg {
				t.Errorf("%s: Page %d: %d changes, %d", what, i, len(got), e)
			}
		}
		if b, _ := d.Read("f", 0, disk.MaxRoom); string(b) != plain(list) || len(d.List()) != 1 {
			t.Errorf("%s: the disk was turned", what)
		}
	}
}

// P13.2: the first page whose last change isn't ahead, whatever is asked for.
func TestFind(t *testing.T) {
	for what, list := range lists() {
		_, x := opened(t, what, plain(list))
		pages := parted(list)
		for _, y := range near(list) {
			if got := x.Find(y); got != found(pages, y) {
				t.Errorf("%s: Find of %q %d: %d, want %d", what, y.Key, y.Seq, got, found(pages, y))
			}
		}
	}
}

// P13.3: the change of the greatest Seq up to the one that is asked for.
func TestGet(t *testing.T) {
	for what, list := range lists() {
		_, x := opened(t, what, plain(list))
		for i, y := range near(list) {
			// Of long lists some, from their fronts to their ends, are enough.
			if i%(1+len(list)/200) != 0 {
				continue
			}
			want, is := newest(list, y.Key, y.Seq)
			if got, ok, e := x.Get(y.Key, y.Seq); got != want || ok != is || e != api.OK {
				t.Errorf("%s: Get of %q %d: %q %d %v %d, want %v", what, y.Key, y.Seq, got.Key, got.Seq, ok, e, is)
			}
		}
	}
}

// P13.3: a key's changes on several pages.
func TestGetOverPages(t *testing.T) {
	list := of("key", slices.Repeat([]string{strings.Repeat("v", 500), ""}, 20)...)
	list = append(append([]key.Entry{{Key: "a", Seq: 9}}, list...), key.Entry{Key: "z", Seq: 3})
	_, x := opened(t, "a key", plain(list))
	if x.Pages() < 6 {
		t.Fatal(x.Pages())
	}
	for seq := range uint64(45) {
		y, ok, e := x.Get("key", seq)
		if want, is := newest(list, "key", seq); y != want || ok != is || e != api.OK {
			t.Errorf("Get of %d: %d %v %d", seq, y.Seq, ok, e)
		}
	}
}

// none tells whether a Get answers that there is nothing.
func none(t *testing.T, what string, x *File, name string, seq uint64) {
	t.Helper()
	if y, ok, e := x.Get(name, seq); y != (key.Entry{}) || ok || e != api.OK {
		t.Errorf("%s: %q %v %d", what, y.Key, ok, e)
	}
}

// P13.3: no page is read of what isn't right, what is behind all changes, and what the filter says isn't there.
func TestGetReadsNoPage(t *testing.T) {
	list := sized(40, 300)
	d, x := opened(t, "some", plain(list))
	filter := filterBits(list)
	d.Fuse(1)
	d.Remove("f")
	if !d.Down() {
		t.Fatal("the power is on")
	}
	none(t, "no key", x, "", 1)
	none(t, "too long a key", x, "k0001"+strings.Repeat("k", api.MaxKey), 1)
	none(t, "too great a number", x, "k0001", key.MaxSeq+1)
	none(t, "greatest number", x, "k0001", math.MaxUint64)
	none(t, "behind all", x, "k0039\x00", 1)
	none(t, "behind all changes", x, "k0039", 0)
	said := 0
	for i := range 300 {
		name := fmt.Sprintf("k00%02dx%d", i%39, i)
		if filter(name) {
			if _, ok, e := x.Get(name, 5); ok || e != api.ErrDown {
				t.Errorf("Get of %s with the power off: %d", name, e)
			}
			continue
		}
		said++
		none(t, "not in the filter", x, name, 5)
	}
	if said < 200 {
		t.Error("said", said)
	}
	for _, y := range list {
		if got, ok, e := x.Get(y.Key, y.Seq); got != (key.Entry{}) || ok || e != api.ErrDown {
			t.Errorf("Get of %s with the power off: %d", y.Key, e)
		}
	}
	d.Crash(nil)
	for _, y := range list {
		if got, ok, e := x.Get(y.Key, y.Seq); got != y || !ok || e != api.OK {
			t.Errorf("Get of %s with the power on again: %d", y.Key, e)
		}
	}
}

// filterBits tells of a key whether the filter of changes has it, as the document tells it.
func filterBits(list []key.Entry) func(string) bool {
	bits := filterText(list)[1:]
	return func(name string) bool {
		a := sum(name)
		step := mask(a) | 1
		for range 6 {
			bit := uint64(a) * uint64(8*len(bits)) >> 32
			if bits[bit/8]>>(bit%8)&1 == 0 {
				return false
			}
			a += step
		}
		return true
	}
}

// P13.2, P13.3: with the power off, or the file gone, or another one in its place.
func TestPageGone(t *testing.T) {
	list := sized(40, 300)
	text := plain(list)
	reads := func(what string, x *File, want api.Errno) {
		t.Helper()
		for i := range x.Pages() {
			if got, e := x.Page(i); len(got) != 0 || e != want {
				t.Errorf("%s: Page %d: %d changes, %d, want %d", what, i, len(got), e, want)
			}
		}
		if y, ok, e := x.Get("k0001", 100); y != (key.Entry{}) || ok || e != want {
			t.Errorf("%s: Get: %v %d, want %d", what, ok, e, want)
		}
		if _, e := x.Page(x.Pages()); e != api.ErrArg {
			t.Errorf("%s: Page that isn't: %d", what, e)
		}
		if x.Pages() != 10 || x.Count() != 40 || x.Low() != "k0000" || x.High() != "k0039" || x.Find(key.Entry{Key: "k0039"}) != 10 {
			t.Errorf("%s: what is known of the file", what)
		}
	}
	d, x := opened(t, "some", text)
	d.Fuse(1)
	d.Create("x")
	reads("power off", x, api.ErrDown)

	d, x = opened(t, "some", text)
	must(t, "Remove", d.Remove("f"), api.OK)
	reads("removed", x, api.ErrBad)
	must(t, "Create", d.Create("f"), api.OK)
	reads("empty", x, api.ErrBad)
	other := strings.Repeat("x", len(text))
	must(t, "Append", d.Append("f", []byte(other)), api.OK)
	reads("another one", x, api.ErrBad)

	d, x = opened(t, "some", text)
	must(t, "Rename", d.Rename("f", "g"), api.OK)
	must(t, "Create", d.Create("f"), api.OK)
	must(t, "Append", d.Append("f", []byte(plain(sized(41, 301)))), api.OK)
	reads("another file", x, api.ErrBad)
	must(t, "Rename", d.Rename("g", "f"), api.OK)
	if got, e := x.Page(9); e != api.OK || !slices.Equal(got, list[36:]) {
		t.Errorf("there again: %d", e)
	}
}

// P13.2: Size's errors, and ErrDown.
func TestOpenRefuses(t *testing.T) {
	text := plain(sized(5, 50))
	opens := func(what string, d *disk.Disk, name string, want api.Errno) {
		t.Helper()
		if x, e := Open(d, name); x != nil || e != want {
			t.Errorf("Open of %s: %d, want %d", what, e, want)
		}
	}
	opens("no disk", nil, "f", api.ErrArg)
	d := holding(t, text)
	opens("no such file", d, "g", api.ErrNone)
	opens("no such name", d, "F", api.ErrNone)
	opens("no name", d, "", api.ErrNone)
	d.Fuse(1)
	d.Create("x")
	opens("a file with the power off", d, "f", api.ErrDown)
	opens("no file with the power off", d, "g", api.ErrDown)
	d.Crash(nil)
	if _, e := Open(d, "f"); e != api.OK {
		t.Errorf("Open with the power on again: %d", e)
	}
}

// P13.2: a File that is nil, and one that Open didn't make.
func TestNil(t *testing.T) {
	for what, x := range map[string]*File{"nil": nil, "zero": {}} {
		if x.Pages() != 0 || x.Count() != 0 || x.Low() != "" || x.High() != "" || x.Find(key.Entry{Key: "a"}) != 0 {
			t.Error(what)
		}
		if list, e := x.Page(0); len(list) != 0 || e != api.ErrArg {
			t.Errorf("%s: Page: %d", what, e)
		}
	}
	var x *File
	if y, ok, e := x.Get("a", 1); y != (key.Entry{}) || ok || e != api.ErrArg {
		t.Errorf("nil: Get: %d", e)
	}
	if y, ok, e := x.Get("", key.MaxSeq+1); y != (key.Entry{}) || ok || e != api.ErrArg {
		t.Errorf("nil: Get of what isn't right: %d", e)
	}
	none(t, "zero", &File{}, "a", 1)
}

// bad tells whether bytes are no file's.
func bad(t *testing.T, what, text string) {
	t.Helper()
	d := holding(t, text)
	if x, e := Open(d, "f"); x != nil || e != api.ErrBad {
		t.Errorf("Open of %s: %d, want ErrBad", what, e)
	}
	if b, _ := d.Read("f", 0, disk.MaxRoom); string(b) != text {
		t.Errorf("Open of %s turned it", what)
	}
}

// P13.2: bytes cut at either end, or with others beside them.
func TestOpenCut(t *testing.T) {
	text := plain(sized(9, 300))
	for n := range len(text) {
		bad(t, fmt.Sprint("the first ", n), text[:n])
		bad(t, fmt.Sprint("the last ", n), text[len(text)-n:])
		bad(t, fmt.Sprint("without byte ", n), text[:n]+text[n+1:])
	}
	for what, s := range map[string]string{
		"a byte behind":     text + "\x00",
		"a byte ahead":      "\x00" + text,
		"a record behind":   text + rec("x"),
		"a record ahead":    rec("x") + text,
		"twice":             text + text,
		"another one ahead": plain(sized(3, 30)) + text,
		"nothing":           "",
		"noughts":           strings.Repeat("\x00", 500),
		"ending alone":      rec(strings.Repeat("\x00", 40)),
		"records of none":   strings.Repeat(rec(""), 20),
	} {
		bad(t, what, s)
	}
	for _, n := range []int{0, 8, 32, 39, 41, 48} {
		end := text[len(text)-40:] + strings.Repeat("\x00", 8)
		bad(t, fmt.Sprint("an ending of ", n), text[:len(text)-52]+rec(end[:n]))
	}
}

// P13.2: each number of the ending another one, with checks that are right.
func TestOpenEnding(t *testing.T) {
	for what, list := range map[string][]key.Entry{"one page": sized(3, 50), "three pages": sized(9, 300)} {
		d := draftOf(list)
		text := d.text()
		right := d.ends()
		for i, n := range right {
			// How many changes there are is known of one page only; of more pages each but the first has one at least.
			others := []uint64{n - 1, n + 1, 0, 1, n + 1<<32, 1 << 63, math.MaxUint64, math.MaxUint64 - n, uint64(len(text))}
			if i == 4 && what != "one page" {
				others = []uint64{0, 1, 5, 1 << 32, 1 << 63, math.MaxUint64, uint64(len(text))}
			}
			for _, m := range others {
				d.ending = slices.Clone(right)
				d.ending[i] = m
				bad(t, fmt.Sprint(what, ": number ", i, " of ", n, " is ", m), d.text())
			}
		}
		// These make up for each other.
		for _, by := range []uint64{1, 12, math.MaxUint64} {
			d.ending = slices.Clone(right)
			d.ending[1], d.ending[2], d.ending[3] = right[1]+by, right[2]+by, right[3]-by
			bad(t, fmt.Sprint(what, ": the filter is ", by, " behind"), d.text())
			d.ending = slices.Clone(right)
			d.ending[0], d.ending[1] = right[0]+by, right[1]-by
			bad(t, fmt.Sprint(what, ": the page of Inners is ", by, " behind"), d.text())
		}
	}
}

// P13.2: parts that aren't as they are told, with checks that are right.
func TestOpenDrafts(t *testing.T) {
	list := sized(9, 300)
	gone := key.Entry{Key: list[3].Key, Seq: list[3].Seq, Del: true}.Inner()
	long := []key.Entry{{Key: "k", Val: strings.Repeat("v", api.MaxVal+1)}}
	for what, c := range map[string]struct {
		list []key.Entry
		turn func(d *draft)
	}{
		"no pages":                     {nil, func(d *draft) {}},
		"no pages, a count":            {nil, func(d *draft) { d.count = 1 }},
		"a gap behind the Inners":      {list, func(d *draft) { d.between = "x" }},
		"a record behind the Inners":   {list, func(d *draft) { d.between = rec("x") }},
		"a gap behind the filter":      {list, func(d *draft) { d.last = "x" }},
		"a record behind the filter":   {list, func(d *draft) { d.last = rec("x") }},
		"no page of Inners":            {list, func(d *draft) { d.index = "x" }},
		"Inners of none":               {list, func(d *draft) { d.index = pageText(nil) }},
		"Inners of some":               {list, func(d *draft) { d.names = d.names[:2] }},
		"Inners of others":             {list, func(d *draft) { d.names = d.names[1:] }},
		"no Inner":                     {list, func(d *draft) { d.names[1] = "k0004" }},
		"no Inner first":               {list, func(d *draft) { d.names[0] = "" }},
		"Inners out of order":          {list, func(d *draft) { d.names[1], d.names[2] = d.names[2], d.names[1] }},
		"an Inner twice":               {list, func(d *draft) { d.names[1] = d.names[2] }},
		"an Inner twice, once gone":    {list, func(d *draft) { d.names[0] = list[3].Inner(); d.names[1] = gone }},
		"another Inner first":          {list, func(d *draft) { d.names[0] = list[2].Inner() }},
		"a greater Inner first":        {list, func(d *draft) { d.names[0] = list[4].Inner() }},
		"the first one's is gone":      {list, func(d *draft) { d.names[0] = gone }},
		"a place is no two numbers":    {list, func(d *draft) { d.vals = []string{"\x00\x80", "", ""} }},
		"a place is a size alone":      {list, func(d *draft) { d.places(0, 1, 2); d.vals[0] = d.vals[0][1:] }},
		"a place of two records":       {list, func(d *draft) { d.places(0, 1, 2); d.twoInOne() }},
		"a place of Inners and more":   {list, func(d *draft) { d.between = "x"; d.ending = d.ends(); d.ending[1]++ }},
		"a place of a filter and more": {list, func(d *draft) { d.last = "x"; d.ending = d.ends(); d.ending[3]++ }},
		"places go round":              {list, func(d *draft) { d.places(0, 1, 2); d.goRound() }},
		"no places":                    {list, func(d *draft) { d.vals = []string{"", "", ""} }},
		"places are one another's":     {list, func(d *draft) { d.places(1, 0, 2) }},
		"places begin behind":          {list, func(d *draft) { d.places(1, 2, 2) }},
		"a place is twice":             {list, func(d *draft) { d.places(0, 0, 1) }},
		"a place has more behind":      {list, func(d *draft) { d.places(0, 1, 2); d.vals[2] += "\x00" }},
		"a place has a longer form":    {list, func(d *draft) { d.places(0, 1, 2); d.vals[0] = "\x80" + d.vals[0] }},
		"a place is far":               {list, func(d *draft) { d.places(0, 1, 2); d.vals[0] = "\x00" + laid(math.MaxInt) }},
		"the last is a byte less":      {list, func(d *draft) { d.places(0, 1, 2); d.vals[2] = d.span(2, -1) }},
		"the last is a byte more":      {list, func(d *draft) { d.places(0, 1, 2); d.vals[2] = d.span(2, 1) }},
		"the first is a byte less":     {list, func(d *draft) { d.places(0, 1, 2); d.vals[0] = d.span(0, -1) }},
		"a page of two":                {list, func(d *draft) { d.pages[0] += d.pages[1] }},
		"another filter":               {list, func(d *draft) { d.filter = "\x05" + d.filter[1:] }},
		"no filter":                    {list, func(d *draft) { d.filter = "" }},
		"a short filter":               {list, func(d *draft) { d.filter = d.filter[:8] }},
		"a filter of none":             {list, func(d *draft) { d.filter = filterText(nil) }},
		"a filter without the first":   {list, func(d *draft) { d.filter = filterText(list[1:]) }},
		"a filter without a last":      {list, func(d *draft) { d.filter = filterText(slices.Delete(slices.Clone(list), 7, 8)) }},
		"a filter without the others":  {list, func(d *draft) { d.filter = filterText(list[:4]) }},
		"one page, a greater filter":   {list[:2], func(d *draft) { d.filter += "\x00" }},
		"one page, a filter of more":   {list[:2], func(d *draft) { d.filter = filterText(list[:3]) }},
		"one page, a filter of all":    {list[:2], func(d *draft) { d.filter = "\x06" + strings.Repeat("\xff", 8) }},
		"no first page":                {list, func(d *draft) { d.pages[0] = "x" }},
		"an empty page alone":          {list[:2], func(d *draft) { d.pages[0] = pageText(nil) }},
		"an empty first page":          {list, func(d *draft) { d.pages[0] = pageText(nil) }},
		"a page without an Inner":      {list, func(d *draft) { d.pages[0] = strings.Replace(d.pages[0], "k0000\x00\x01", "k0000\x00\x02", 1) }},
		"a first page that isn't full": {list, func(d *draft) { d.pages[0] = pageText(pairs(list[1:4])) }},
		"a first page that is too full": {append([]key.Entry{{Key: "a", Val: strings.Repeat("v", 1024)}}, list...), func(d *draft) {
			d.pages[1] = pageText(pairs(append([]key.Entry{{Key: "a", Val: strings.Repeat("v", 1024)}}, list[:4]...)))
			d.pages, d.names = d.pages[1:], d.names[1:]
		}},
		"a first page out of order":     {list, func(d *draft) { d.pages[0] = pageText(pairs([]key.Entry{list[1], list[0], list[2], list[3]})) }},
		"another page first":            {list, func(d *draft) { d.pages[0] = d.pages[1] }},
		"too long a value":              {long, func(d *draft) {}},
		"too long a key":                {[]key.Entry{{Key: strings.Repeat("k", api.MaxKey+1)}}, func(d *draft) {}},
		"gone with a value":             {[]key.Entry{{Key: "a", Del: true, Val: "v"}}, func(d *draft) {}},
		"no key":                        {[]key.Entry{{}}, func(d *draft) {}},
		"one twice, once gone":          {[]key.Entry{{Key: "a", Seq: 1}, {Key: "a", Seq: 1, Del: true}}, func(d *draft) {}},
		"the count of a page one less":  {list[:2], func(d *draft) { d.count-- }},
		"the count of a page one more":  {list[:2], func(d *draft) { d.count++ }},
		"the count of pages far less":   {list, func(d *draft) { d.count = 5 }},
		"the count of pages is greater": {list, func(d *draft) { d.count = len(d.text()) }},
	} {
		d := draftOf(c.list)
		c.turn(&d)
		bad(t, what, d.text())
	}
}

// span is where the i-th page's record begins, and by how many bytes more than it has.
func (d *draft) span(i, by int) string {
	return laid(d.pagesSize(i)) + laid(len(rec(d.pages[i]))+by)
}

// places lets the page of Inners tell these pages' places.
func (d *draft) places(list ...int) {
	d.vals = nil
	for _, i := range list {
		d.vals = append(d.vals, d.span(i, 0))
	}
}

// goRound lets the second of three pages end behind them all, and the last go round the numbers to where they end.
func (d *draft) goRound() {
	at, end := d.pagesSize(1), d.pagesSize(3)
	d.vals[1] = laid(at) + laid(end-at+5)
	d.vals[2] = laid(end+5) + laid(-5)
}

// twoInOne lets the first page's place end with the second page's record, of which nothing else is told.
func (d *draft) twoInOne() {
	d.vals = []string{laid(0) + laid(d.pagesSize(2)), d.vals[2]}
	d.names = []string{d.names[0], d.names[2]}
}

// P13.2: the last page of several needn't be full: but it is none that is empty, or has others' changes.
func TestLastPageDrafts(t *testing.T) {
	list := sized(6, 300)
	for what, b := range map[string]string{
		"an empty page": pageText(nil),
		"too few":       pageText(pairs(list[4:5])),
		"more behind":   pageText(pairs(append(slices.Clone(list[4:]), key.Entry{Key: "z"}))),
		"full, more":    pageText(pairs([]key.Entry{{Key: "k0004", Val: strings.Repeat("v", 1100)}, list[5]})),
	} {
		d := draftOf(list)
		d.pages[1] = b
		_, x := opened(t, what, d.text())
		if got, e := x.Page(1); len(got) != 0 || e != api.ErrBad {
			t.Errorf("%s: Page: %d changes, %d, want ErrBad", what, len(got), e)
		}
		if y, ok, e := x.Get(list[5].Key, list[5].Seq); y != (key.Entry{}) || ok || e != api.ErrBad {
			t.Errorf("%s: Get: %v %d, want ErrBad", what, ok, e)
		}
	}
}

// P13.2, P13.3: a page behind the first that isn't what was written, with checks that are right: Open doesn't look at it, and the others can be read.
func TestPageDrafts(t *testing.T) {
	list := sized(11, 300)
	for what, b := range map[string]string{
		"nothing":           "",
		"no page":           "x",
		"an empty page":     pageText(nil),
		"no Inners":         strings.Replace(pageText(pairs(list[4:8])), "k0004\x00\x01", "k0004\x01\x01", 1),
		"too few":           pageText(pairs(list[5:8])),
		"the last isn't":    pageText(pairs(list[4:7])),
		"more behind":       pageText(pairs(append(slices.Clone(list[4:8]), key.Entry{Key: "k0007a"}))),
		"others":            pageText(pairs(list[:4])),
		"too many":          pageText(pairs(list[3:8])),
		"more than is full": pageText(pairs(append([]key.Entry{{Key: "k0003a", Val: strings.Repeat("v", 1100)}}, list[7]))),
		"one ahead's":       pageText(pairs([]key.Entry{list[3], list[5], list[6], list[7]})),
		"one ahead's, gone": pageText(pairs([]key.Entry{{Key: list[3].Key, Seq: list[3].Seq, Del: true}, list[4], list[5], list[6], list[7]})),
		"the last is gone":  pageText(pairs([]key.Entry{list[4], list[5], {Key: "k0006", Val: strings.Repeat("v", 419)}, {Key: list[7].Key, Seq: list[7].Seq, Del: true}})),
		"one twice":         pageText(pairs([]key.Entry{list[4], list[5], list[6], {Key: list[6].Key, Seq: list[6].Seq, Del: true}, list[7]})),
		"too long a value":  pageText(pairs([]key.Entry{list[4], {Key: list[7].Key, Seq: list[7].Seq, Val: strings.Repeat("v", api.MaxVal+1)}})),
		"gone with a value": pageText(pairs([]key.Entry{list[4], {Key: "k0005", Del: true, Val: list[5].Val}, list[6], list[7]})),
	} {
		d := draftOf(list)
		d.pages[1] = b
		_, x := opened(t, what, d.text())
		if got, e := x.Page(1); len(got) != 0 || e != api.ErrBad {
			t.Errorf("%s: Page: %d changes, %d, want ErrBad", what, len(got), e)
		}
		for i, y := range list {
			got, ok, e := x.Get(y.Key, y.Seq)
			if i/4 == 1 && (got != key.Entry{} || ok || e != api.ErrBad) || i/4 != 1 && (got != y || !ok || e != api.OK) {
				t.Errorf("%s: Get of %s: %v %d", what, y.Key, ok, e)
			}
		}
		for _, i := range []int{0, 2} {
			if got, e := x.Page(i); e != api.OK || !slices.Equal(got, parted(list)[i]) {
				t.Errorf("%s: Page %d: %d", what, i, e)
			}
		}
	}
}

// answers is what a file answers of itself, and of some changes, each of them a text; a page that is bad is told by its error alone.
func answers(x *File, asked []key.Entry) []string {
	list := []string{fmt.Sprint(x.Pages()), fmt.Sprint(x.Count()), x.Low(), x.High()}
	for i := range x.Pages() {
		one, e := x.Page(i)
		list = append(list, fmt.Sprintf("%d %+v", e, one))
	}
	for _, y := range asked {
		z, ok, e := x.Get(y.Key, y.Seq)
		list = append(list, fmt.Sprint(x.Find(y)), fmt.Sprintf("%d %v %+v", e, ok, z))
	}
	return list
}

// P13.4: with a byte turned anywhere each answer is ErrBad, or as it would be without; and one of them is ErrBad.
func TestSpoiled(t *testing.T) {
	list := append(sized(4, 350), of("k0004", strings.Repeat("v", 500), "", "x", strings.Repeat("w", 700), "y")...)
	asked := []key.Entry{list[1], {Key: "k0002", Seq: 9}, {Key: "k0004", Seq: 9}, {Key: "k0004", Seq: 3}, {Key: "k0004", Seq: 1}, {Key: "k0004"}, {Key: "k0003a", Seq: 1}}
	text := plain(list)
	_, right := opened(t, "all right", text)
	want := answers(right, asked)
	if right.Pages() != 3 {
		t.Fatal(right.Pages())
	}
	as := func(what string, x *File) int {
		errors := 0
		for i, s := range answers(x, asked) {
			if s == fmt.Sprintf("%d %+v", api.ErrBad, []key.Entry(nil)) || s == fmt.Sprintf("%d %v %+v", api.ErrBad, false, key.Entry{}) {
				errors++
			} else if s != want[i] {
				t.Fatalf("%s: answer %d: %s, want %s", what, i, s, want[i])
			}
		}
		return errors
	}
	ending := len(text) - 52
	for at := range len(text) {
		for _, bits := range []byte{1, 0x80, 0xff, byte(at) | 2} {
			what := fmt.Sprint("byte ", at, " by ", bits)
			d, before := opened(t, what, text)
			must(t, what, d.Spoil("f", at, bits), api.OK)
			told := as(what, before)
			behind, e := Open(d, "f")
			if e == api.OK {
				told = as(what, behind)
			} else if told++; e != api.ErrBad || behind != nil {
				t.Fatalf("%s: Open: %d", what, e)
			}
			if told == 0 || at >= ending && e != api.ErrBad {
				t.Fatalf("%s: nothing tells it", what)
			}
		}
	}
}

// P13.2, P13.3: answers hang on the file alone: one that is asked in another order answers the same.
func TestAskedInAnyOrder(t *testing.T) {
	list := rolled(77, 200)
	_, x := opened(t, "rolled", plain(list))
	asked := near(list)[:500]
	slices.SortFunc(asked, func(a, b key.Entry) int { return cmp.Compare(sum(a.Key), sum(b.Key)) })
	for _, y := range asked {
		x.Page(int(y.Seq) % x.Pages())
		want, is := newest(list, y.Key, y.Seq)
		if got, ok, e := x.Get(y.Key, y.Seq); got != want || ok != is || e != api.OK {
			t.Errorf("Get of %q %d: %v %d", y.Key, y.Seq, ok, e)
		}
	}
}
