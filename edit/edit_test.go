package edit

import (
	"fmt"
	"math"
	"slices"
	"strings"
	"testing"

	"tailrace/api"
	"tailrace/disk"
	"tailrace/key"
	"tailrace/wal"
)

// dice is numbers with no pattern to speak of, the same ones in each run.
type dice uint64

func (d *dice) roll(n int) int {
	*d = *d*6364136223846793005 + 1442695040888963407
	return int((uint64(*d) >> 33) % uint64(n))
}

// must tells whether a call answered the error that is wanted.
func must(t *testing.T, what string, got, want api.Errno) {
	t.Helper()
	if got != want {
		t.Errorf("%s: %d, want %d", what, got, want)
	}
}

// told is all that a version is, as one text; a list that is nil is as one that is empty.
func told(v Version) string {
	return fmt.Sprintf("%+v", v)
}

// meta is a file of ten bytes.
func meta(num, level int, low, high string) Meta {
	return Meta{Num: num, Level: level, Low: low, High: high, Size: 10}
}

// long is a text of so many bytes.
func long(n int) string {
	return strings.Repeat("k", n)
}

// many is so many files of the first level.
func many(n int) []Meta {
	var list []Meta
	for i := range n {
		list = append(list, meta(i+1, 0, "a", "b"))
	}
	return list
}

// P15.1: the numbers that the document names, and what there is in the beginning.
func TestFirst(t *testing.T) {
	if Levels != 6 || MostFiles != 1000 || MostNum != 1<<30 || Now != "now" || Soon != "soon" {
		t.Error(Levels, MostFiles, MostNum, Now, Soon)
	}
	if v := First(); told(v) != told(Version{Log: 1, Next: 1}) || v.Check() != api.OK {
		t.Error(told(v))
	}
}

// P15.1: each bound, from both sides.
func TestCheck(t *testing.T) {
	one := meta(4, 1, "c", "f")
	of := func(list ...Meta) Version { return Version{Files: list, Log: 3, Next: 9, Seq: 5} }
	with := func(turn func(f *Meta)) Version {
		f := one
		turn(&f)
		return of(f)
	}
	for what, c := range map[string]struct {
		v    Version
		want api.Errno
	}{
		"of nothing":        {of(), api.OK},
		"of one":            {of(one), api.OK},
		"the zero one":      {Version{}, api.ErrArg},
		"Log 0":             {Version{Log: 0, Next: 1}, api.ErrArg},
		"Log below 0":       {Version{Log: -1, Next: 1}, api.ErrArg},
		"Log at its most":   {Version{Log: wal.MaxPart, Next: 1}, api.OK},
		"Log above":         {Version{Log: wal.MaxPart + 1, Next: 1}, api.ErrArg},
		"Next 0":            {Version{Log: 1, Next: 0}, api.ErrArg},
		"Next below 0":      {Version{Log: 1, Next: math.MinInt}, api.ErrArg},
		"Next at its most":  {Version{Log: 1, Next: MostNum}, api.OK},
		"Next above":        {Version{Log: 1, Next: MostNum + 1}, api.ErrArg},
		"Seq at its most":   {Version{Log: 1, Next: 1, Seq: key.MaxSeq}, api.OK},
		"Seq above":         {Version{Log: 1, Next: 1, Seq: key.MaxSeq + 1}, api.ErrArg},
		"Seq at the end":    {Version{Log: 1, Next: 1, Seq: math.MaxUint64}, api.ErrArg},
		"Num 0":             {with(func(f *Meta) { f.Num = 0 }), api.ErrArg},
		"Num below 0":       {with(func(f *Meta) { f.Num = -4 }), api.ErrArg},
		"Num 1":             {with(func(f *Meta) { f.Num = 1 }), api.OK},
		"Num below Next":    {with(func(f *Meta) { f.Num = 8 }), api.OK},
		"Num as Next":       {with(func(f *Meta) { f.Num = 9 }), api.ErrArg},
		"Num above Next":    {with(func(f *Meta) { f.Num = 10 }), api.ErrArg},
		"Level below 0":     {with(func(f *Meta) { f.Level = -1 }), api.ErrArg},
		"Level 0":           {with(func(f *Meta) { f.Level = 0 }), api.OK},
		"Level 5":           {with(func(f *Meta) { f.Level = 5 }), api.OK},
		"Level 6":           {with(func(f *Meta) { f.Level = 6 }), api.ErrArg},
		"no Low":            {with(func(f *Meta) { f.Low = "" }), api.ErrArg},
		"no keys":           {with(func(f *Meta) { f.Low, f.High = "", "" }), api.ErrArg},
		"no High":           {with(func(f *Meta) { f.High = "" }), api.ErrArg},
		"long keys":         {with(func(f *Meta) { f.Low, f.High = long(128), long(128) }), api.OK},
		"too long a Low":    {with(func(f *Meta) { f.Low, f.High = long(129), "z" }), api.ErrArg},
		"too long a High":   {with(func(f *Meta) { f.High = long(129) }), api.ErrArg},
		"Low as High":       {with(func(f *Meta) { f.Low = "f" }), api.OK},
		"Low behind High":   {with(func(f *Meta) { f.Low = "f\x00" }), api.ErrArg},
		"Low far behind":    {with(func(f *Meta) { f.Low = "\xff" }), api.ErrArg},
		"Size below 0":      {with(func(f *Meta) { f.Size = -1 }), api.ErrArg},
		"Size 0":            {with(func(f *Meta) { f.Size = 0 }), api.OK},
		"Size at its most":  {with(func(f *Meta) { f.Size = disk.MaxRoom }), api.OK},
		"Size above":        {with(func(f *Meta) { f.Size = disk.MaxRoom + 1 }), api.ErrArg},
		"one twice":         {of(meta(4, 0, "a", "b"), meta(4, 0, "a", "b")), api.ErrArg},
		"out of order":      {of(meta(5, 0, "a", "b"), meta(4, 0, "a", "b")), api.ErrArg},
		"with a gap":        {of(meta(2, 0, "a", "b"), meta(8, 0, "a", "b")), api.OK},
		"of one first key":  {of(meta(2, 3, "a", "b"), meta(8, 3, "a", "a")), api.ErrArg},
		"one ends as other": {of(meta(2, 3, "a", "b"), meta(8, 3, "b", "c")), api.ErrArg},
		"ends as, behind":   {of(meta(2, 5, "b", "c"), meta(8, 5, "a", "b")), api.ErrArg},
		"apart":             {of(meta(2, 5, "b", "c"), meta(8, 5, "a", "a\xff")), api.OK},
		"one in another":    {of(meta(2, 1, "a", "z"), meta(3, 1, "c", "d")), api.ErrArg},
		"levels beside":     {of(meta(2, 1, "a", "z"), meta(3, 2, "a", "z"), meta(4, 3, "b", "c"), meta(5, 4, "c", "d"), meta(6, 5, "a", "a")), api.OK},
		"the first level":   {of(meta(2, 0, "a", "z"), meta(3, 0, "a", "z"), meta(4, 0, "c", "d")), api.OK},
		"far between":       {of(meta(2, 2, "x", "z"), meta(3, 0, "a", "z"), meta(4, 2, "a", "c"), meta(5, 2, "y", "y")), api.ErrArg},
	} {
		must(t, "Check, "+what, c.v.Check(), c.want)
	}
}

// P15.1: as many files as there may be; which error comes first.
func TestCheckMany(t *testing.T) {
	must(t, "as many", Version{Files: many(MostFiles), Log: 1, Next: MostFiles + 1}.Check(), api.OK)
	must(t, "one more", Version{Files: many(MostFiles + 1), Log: 1, Next: MostFiles + 2}.Check(), api.ErrMany)
	must(t, "one more, and Log 0", Version{Files: many(MostFiles + 1), Next: MostFiles + 2}.Check(), api.ErrArg)
	must(t, "one more, and Next 0", Version{Files: many(MostFiles + 1), Log: 1}.Check(), api.ErrArg)
	must(t, "one more, and Seq", Version{Files: many(MostFiles + 1), Log: 1, Next: 2000, Seq: key.MaxSeq + 1}.Check(), api.ErrArg)
	must(t, "one more, none right", Version{Files: make([]Meta, MostFiles+1), Log: 1, Next: 1}.Check(), api.ErrMany)
	must(t, "as many, the last not right", Version{Files: many(MostFiles), Log: 1, Next: MostFiles}.Check(), api.ErrArg)
}

// rolled is a version of small numbers and short keys: right ones and others.
func rolled(r *dice) Version {
	v := Version{Log: 1 + r.roll(3), Next: 3 + r.roll(8), Seq: uint64(r.roll(4))}
	num := 0
	for range r.roll(5) {
		num += 1 + r.roll(2)
		f := Meta{Num: num, Level: r.roll(4), Low: string(rune('a' + r.roll(20))), Size: r.roll(9)}
		f.High = f.Low + []string{"", "", "a"}[r.roll(3)]
		v.Files = append(v.Files, f)
	}
	if r.roll(4) == 0 && len(v.Files) > 1 {
		v.Files[0], v.Files[1] = v.Files[1], v.Files[0]
	}
	return v
}

// right is whether a version of good numbers is right, file by file and two by two.
func right(v Version) bool {
	for i, f := range v.Files {
		if f.Num >= v.Next || f.Low > f.High {
			return false
		}
		for _, g := range v.Files[:i] {
			apart := f.High < g.Low || g.High < f.Low
			if g.Num >= f.Num || f.Level == g.Level && f.Level > 0 && !apart {
				return false
			}
		}
	}
	return true
}

// P15.1: Check, held against what is told two by two.
func TestCheckRolled(t *testing.T) {
	r, count := dice(1), [2]int{}
	for range 5000 {
		v := rolled(&r)
		want := api.ErrArg
		if right(v) {
			want = api.OK
			count[0]++
		} else {
			count[1]++
		}
		must(t, told(v), v.Check(), want)
	}
	if min(count[0], count[1]) < 500 {
		t.Error(count)
	}
}

// nums is the numbers of files.
func nums(list []Meta) []int {
	var all []int
	for _, f := range list {
		all = append(all, f.Num)
	}
	return all
}

// P15.1: a level's files in their order, of right versions and of others, and nothing else.
func TestOf(t *testing.T) {
	v := Version{Log: 1, Next: 20, Files: []Meta{
		meta(1, 0, "c", "d"), meta(2, 1, "x", "y"), meta(3, 0, "a", "z"), meta(4, 1, "b", "c"), meta(5, 5, "q", "r"), meta(6, 1, "m", "n"), meta(7, 0, "b", "b"),
	}}
	for level, want := range map[int][]int{0: {7, 3, 1}, 1: {4, 6, 2}, 2: nil, 3: nil, 4: nil, 5: {5}, 6: nil, -1: nil, math.MinInt: nil, math.MaxInt: nil} {
		if got := nums(v.Of(level)); !slices.Equal(got, want) {
			t.Errorf("Of %d: %v, want %v", level, got, want)
		}
	}
	if v.Of(5)[0] != v.Files[4] {
		t.Error("Of 5:", v.Of(5))
	}
	// Of one Low by number, and whatever order they stand in.
	w := Version{Files: []Meta{meta(9, 2, "b", "z"), meta(3, 2, "b", "c"), meta(5, 2, "a", "z"), meta(4, 2, "b", "b"), meta(2, 0, "a", "a"), meta(8, 0, "a", "a")}}
	if got := nums(w.Of(2)); !slices.Equal(got, []int{5, 3, 4, 9}) {
		t.Error("of one Low:", got)
	}
	if got := nums(w.Of(0)); !slices.Equal(got, []int{8, 2}) {
		t.Error("out of order:", got)
	}
	if got := (Version{}).Of(0); len(got) != 0 {
		t.Error("of nothing:", got)
	}
	had := told(v)
	clear(v.Of(0))
	clear(v.Of(1))
	if told(v) != had {
		t.Error("Of shares its files")
	}
}

// base is a version that edits are applied to.
func base() Version {
	return Version{Files: []Meta{meta(2, 0, "a", "f"), meta(3, 1, "c", "d"), meta(5, 1, "g", "h")}, Log: 4, Next: 7, Seq: 9}
}

// P15.2: what an edit makes of a version, and what it is refused for.
func TestApply(t *testing.T) {
	six := meta(6, 1, "e", "f")
	with := func(e Edit, files ...Meta) Version {
		v := Version{Files: files, Log: 4, Next: 7, Seq: 9}
		v.Log, v.Next, v.Seq = max(v.Log, e.Log), max(v.Next, e.Next), max(v.Seq, e.Seq)
		return v
	}
	f := base().Files
	for what, c := range map[string]struct {
		e    Edit
		want Version
	}{
		"nothing":         {Edit{}, base()},
		"the same":        {Edit{Log: 4, Next: 7, Seq: 9}, base()},
		"below 0":         {Edit{Log: -1, Next: math.MinInt}, base()},
		"more":            {Edit{Log: 5, Next: 8, Seq: 10}, with(Edit{Log: 5, Next: 8, Seq: 10}, f...)},
		"Log at its most": {Edit{Log: wal.MaxPart}, with(Edit{Log: wal.MaxPart}, f...)},
		"Next, too":       {Edit{Next: MostNum}, with(Edit{Next: MostNum}, f...)},
		"Seq, too":        {Edit{Seq: key.MaxSeq}, with(Edit{Seq: key.MaxSeq}, f...)},
		"one comes":       {Edit{Add: []Meta{six}}, with(Edit{}, f[0], f[1], f[2], six)},
		"one comes ahead": {Edit{Add: []Meta{meta(1, 0, "x", "x")}}, with(Edit{}, meta(1, 0, "x", "x"), f[0], f[1], f[2])},
		"some come":       {Edit{Next: 9, Add: []Meta{meta(8, 0, "a", "a"), six, meta(4, 2, "a", "z")}}, with(Edit{Next: 9}, f[0], f[1], meta(4, 2, "a", "z"), f[2], six, meta(8, 0, "a", "a"))},
		"one goes":        {Edit{Del: []int{3}}, with(Edit{}, f[0], f[2])},
		"all go":          {Edit{Del: []int{5, 2, 3}}, with(Edit{})},
		"one for another": {Edit{Del: []int{3}, Add: []Meta{meta(6, 1, "c", "e")}}, with(Edit{}, f[0], f[2], meta(6, 1, "c", "e"))},
		"one comes again": {Edit{Del: []int{3}, Add: []Meta{meta(3, 2, "c", "d")}}, with(Edit{}, f[0], meta(3, 2, "c", "d"), f[2])},
	} {
		if v, e := base().Apply(c.e); told(v) != told(c.want) || e != api.OK {
			t.Errorf("Apply, %s: %s %d, want %s", what, told(v), e, told(c.want))
		}
	}
	for what, c := range map[string]struct {
		e    Edit
		want api.Errno
	}{
		"goes that isn't there":  {Edit{Del: []int{4}}, api.ErrArg},
		"a number below 0 goes":  {Edit{Del: []int{-2}}, api.ErrArg},
		"0 goes":                 {Edit{Del: []int{0}}, api.ErrArg},
		"one that isn't, too":    {Edit{Del: []int{2, 4}}, api.ErrArg},
		"one goes twice":         {Edit{Del: []int{3, 3}}, api.ErrArg},
		"one twice, one not":     {Edit{Del: []int{2, 5, 2}}, api.ErrArg},
		"goes as it comes":       {Edit{Del: []int{6}, Add: []Meta{six}}, api.ErrArg},
		"Log less":               {Edit{Log: 3}, api.ErrArg},
		"Next less":              {Edit{Next: 6}, api.ErrArg},
		"Seq less":               {Edit{Seq: 8}, api.ErrArg},
		"Log above":              {Edit{Log: wal.MaxPart + 1}, api.ErrArg},
		"Next above":             {Edit{Next: MostNum + 1}, api.ErrArg},
		"Seq above":              {Edit{Seq: key.MaxSeq + 1}, api.ErrArg},
		"comes that is there":    {Edit{Add: []Meta{meta(3, 0, "a", "b")}}, api.ErrArg},
		"comes twice":            {Edit{Add: []Meta{meta(6, 0, "a", "b"), meta(6, 0, "a", "b")}}, api.ErrArg},
		"comes at Next":          {Edit{Add: []Meta{meta(7, 0, "a", "b")}}, api.ErrArg},
		"comes not right":        {Edit{Add: []Meta{meta(6, 6, "a", "b")}}, api.ErrArg},
		"not apart":              {Edit{Add: []Meta{meta(6, 1, "d", "e")}}, api.ErrArg},
		"too many":               {Edit{Next: 2000, Add: many(MostFiles)}, api.ErrMany},
		"too many, one is there": {Edit{Next: 2000, Add: append(many(MostFiles), f...)}, api.ErrMany},
		"too many, Log less":     {Edit{Log: 1, Next: 2000, Add: many(MostFiles)}, api.ErrArg},
		"too many, goes not":     {Edit{Del: []int{9}, Next: 2000, Add: many(MostFiles)}, api.ErrArg},
	} {
		if v, e := base().Apply(c.e); told(v) != told(Version{}) || e != c.want {
			t.Errorf("Apply, %s: %s %d, want %d", what, told(v), e, c.want)
		}
	}
}

// P15.2: as many files as there may be, some of which go as others come.
func TestApplyMany(t *testing.T) {
	v := Version{Files: many(MostFiles), Log: 1, Next: 2000}
	x := meta(1500, 0, "a", "b")
	_, e := v.Apply(Edit{Add: []Meta{x}})
	must(t, "one more", e, api.ErrMany)
	w, e := v.Apply(Edit{Add: []Meta{x}, Del: []int{7}})
	if e != api.OK || len(w.Files) != MostFiles || w.Files[6].Num != 8 || w.Files[999] != x {
		t.Error("one for another:", len(w.Files), e)
	}
	w, e = v.Apply(Edit{Del: nums(v.Files)})
	if e != api.OK || told(w) != told(Version{Log: 1, Next: 2000}) {
		t.Error("all go:", told(w), e)
	}
}

// P15.2: a version that isn't right is one, too: what counts is what is made of it.
func TestApplyToWrong(t *testing.T) {
	v, e := Version{}.Apply(Edit{Log: 2, Next: 5, Add: []Meta{meta(4, 0, "a", "b"), meta(1, 0, "a", "b")}})
	if e != api.OK || told(v) != told(Version{Log: 2, Next: 5, Files: []Meta{meta(1, 0, "a", "b"), meta(4, 0, "a", "b")}}) {
		t.Error("the zero one:", told(v), e)
	}
	_, e = Version{}.Apply(Edit{Log: 2})
	must(t, "without a Next", e, api.ErrArg)
	out := Version{Log: 1, Next: 9, Files: []Meta{meta(5, 0, "a", "b"), meta(2, 0, "a", "b"), {Num: 8}}}
	v, e = out.Apply(Edit{Del: []int{8}})
	if e != api.OK || !slices.Equal(nums(v.Files), []int{2, 5}) {
		t.Error("out of order:", told(v), e)
	}
	// Two files of a number don't go by one that is told.
	twice := Version{Log: 1, Next: 9, Files: []Meta{meta(5, 0, "a", "b"), meta(5, 0, "a", "b")}}
	_, e = twice.Apply(Edit{Del: []int{5}})
	must(t, "two of a number", e, api.ErrArg)
}

// P15.2: neither the version nor the edit is turned, nor the room behind their lists; what is made shares none with them.
func TestApplyShares(t *testing.T) {
	room := append(base().Files, meta(70, 0, "x", "x"), meta(71, 0, "y", "y"))
	add := []Meta{meta(6, 0, "p", "q"), meta(1, 0, "p", "q"), meta(72, 0, "z", "z")}
	del := []int{5, 3, 99}
	v := base()
	v.Files = room[:3]
	hadRoom, hadAdd, hadDel := slices.Clone(room), slices.Clone(add), slices.Clone(del)
	w, e := v.Apply(Edit{Add: add[:2], Del: del[:2]})
	if e != api.OK || !slices.Equal(nums(w.Files), []int{1, 2, 6}) {
		t.Fatal(told(w), e)
	}
	v.Apply(Edit{Add: add})
	v.All()
	v.Check()
	clear(w.Files)
	if !slices.Equal(room, hadRoom) || !slices.Equal(add, hadAdd) || !slices.Equal(del, hadDel) {
		t.Error("Apply turned what was handed in:", room, add, del)
	}
	w, _ = v.Apply(Edit{Add: add[:2]})
	had := told(w)
	clear(room)
	clear(add)
	if told(w) != had {
		t.Error("Apply kept what was handed in")
	}
}

// applied is what an edit makes of a version, by sets of numbers.
func applied(v Version, e Edit) (Version, bool) {
	ok := true
	w := Version{Log: v.Log, Next: v.Next, Seq: v.Seq}
	if e.Log > 0 {
		ok, w.Log = ok && e.Log >= v.Log, e.Log
	}
	if e.Next > 0 {
		ok, w.Next = ok && e.Next >= v.Next, e.Next
	}
	if e.Seq > 0 {
		ok, w.Seq = ok && e.Seq >= v.Seq, e.Seq
	}
	byNumber := map[int]Meta{}
	for _, f := range v.Files {
		byNumber[f.Num] = f
	}
	for _, n := range e.Del {
		_, there := byNumber[n]
		ok = ok && there
		delete(byNumber, n)
	}
	for _, f := range e.Add {
		_, there := byNumber[f.Num]
		ok = ok && !there
		byNumber[f.Num] = f
	}
	for n := range 40 {
		if f, there := byNumber[n]; there {
			w.Files = append(w.Files, f)
		}
	}
	return w, ok && right(w)
}

// rolledEdit is an edit that is often one that v can be applied.
func rolledEdit(r *dice, v Version) Edit {
	e := Edit{Log: r.roll(3), Next: v.Next + r.roll(3), Seq: v.Seq + uint64(r.roll(3))}
	if r.roll(8) == 0 {
		e.Next, e.Seq = r.roll(3), uint64(r.roll(3))
	} else if e.Log > 0 {
		e.Log += v.Log - 1
	}
	for _, f := range v.Files {
		if r.roll(4) == 0 {
			e.Del = append(e.Del, f.Num)
		}
	}
	if r.roll(12) == 0 {
		e.Del = append(e.Del, r.roll(9))
	}
	slices.Reverse(e.Del)
	for i := range r.roll(3) {
		low := string(rune('a' + r.roll(20)))
		e.Add = append(e.Add, Meta{Num: v.Next + 1 - i, Level: r.roll(4), Low: low, High: low + "x"[:r.roll(2)], Size: r.roll(9)})
	}
	return e
}

// P15.2: Apply and All, held against sets of numbers.
func TestApplyRolled(t *testing.T) {
	r, count := dice(2), [2]int{}
	v := First()
	for i := range 6000 {
		if i%30 == 0 {
			v = First()
		}
		x := rolledEdit(&r, v)
		got, e := v.Apply(x)
		want, ok := applied(v, x)
		if !ok {
			count[1]++
			if told(got) != told(Version{}) || e != api.ErrArg {
				t.Fatalf("%s with %+v: %s %d, want ErrArg", told(v), x, told(got), e)
			}
			continue
		}
		count[0]++
		if told(got) != told(want) || e != api.OK {
			t.Fatalf("%s with %+v: %s %d, want %s", told(v), x, told(got), e, told(want))
		}
		v = got
		if again, e := First().Apply(v.All()); told(again) != told(v) || e != api.OK {
			t.Fatalf("All of %s: %s %d", told(v), told(again), e)
		}
	}
	if min(count[0], count[1]) < 1000 {
		t.Error(count)
	}
}

// P15.2: All is each file, Log, Next and Seq, and shares no memory.
func TestAll(t *testing.T) {
	v := base()
	x := v.All()
	if fmt.Sprintf("%+v", x) != fmt.Sprintf("%+v", Edit{Add: base().Files, Log: 4, Next: 7, Seq: 9}) {
		t.Errorf("All: %+v", x)
	}
	clear(x.Add)
	if told(v) != told(base()) {
		t.Error("All shares its files")
	}
	if x := First().All(); fmt.Sprintf("%+v", x) != fmt.Sprintf("%+v", Edit{Log: 1, Next: 1}) {
		t.Errorf("All of the first: %+v", x)
	}
}
