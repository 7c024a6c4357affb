package level

import (
	"fmt"
	"math"
	"slices"
	"testing"

	"tailrace/api"
	"tailrace/edit"
)

// dice is numbers with no pattern to speak of, the same ones in each run.
type dice uint64

func (d *dice) roll(n int) int {
	*d = *d*6364136223846793005 + 1442695040888963407
	return int((uint64(*d) >> 33) % uint64(n))
}

// meta is a file.
func meta(num, level int, low, high string, size int) edit.Meta {
	return edit.Meta{Num: num, Level: level, Low: low, High: high, Size: size}
}

// of is a version of some files.
func of(list ...edit.Meta) edit.Version {
	return edit.Version{Files: list, Log: 1, Next: 100}
}

// nums is the numbers of files.
func nums(list []edit.Meta) []int {
	var all []int
	for _, f := range list {
		all = append(all, f.Num)
	}
	return all
}

// P16.1: each bound of a conf, from both sides.
func TestCheck(t *testing.T) {
	for _, c := range []struct {
		conf Conf
		want api.Errno
	}{
		{Conf{1, 1, 1}, api.OK},
		{Conf{100, 1 << 26, 1 << 20}, api.OK},
		{Conf{4, 1 << 16, 1 << 13}, api.OK},
		{Conf{}, api.ErrArg},
		{Conf{0, 1, 1}, api.ErrArg},
		{Conf{-1, 1, 1}, api.ErrArg},
		{Conf{101, 1, 1}, api.ErrArg},
		{Conf{1, 0, 1}, api.ErrArg},
		{Conf{1, math.MinInt, 1}, api.ErrArg},
		{Conf{1, 1<<26 + 1, 1}, api.ErrArg},
		{Conf{1, 1, 0}, api.ErrArg},
		{Conf{1, 1, -5}, api.ErrArg},
		{Conf{1, 1, 1<<20 + 1}, api.ErrArg},
		{Conf{math.MaxInt, math.MaxInt, math.MaxInt}, api.ErrArg},
	} {
		if e := c.conf.Check(); e != c.want {
			t.Errorf("Check of %v: %d, want %d", c.conf, e, c.want)
		}
	}
}

// P16.1: files that have keys in a span, its ends included; in the level's order.
func TestMeets(t *testing.T) {
	v := of(meta(1, 1, "m", "p", 1), meta(2, 1, "c", "e", 1), meta(3, 0, "c", "e", 1), meta(4, 1, "g", "g", 1), meta(5, 0, "d", "z", 1), meta(6, 2, "a", "z", 1))
	for _, c := range []struct {
		level     int
		low, high string
		want      []int
	}{
		{1, "a", "z", []int{2, 4, 1}},
		{1, "", "\xff", []int{2, 4, 1}},
		{1, "a", "b", nil},
		{1, "a", "bzzz", nil},
		{1, "a", "c", []int{2}},
		{1, "e", "f", []int{2}},
		{1, "e\x00", "f", nil},
		{1, "d", "d", []int{2}},
		{1, "g", "g", []int{4}},
		{1, "f", "h", []int{4}},
		{1, "e", "m", []int{2, 4, 1}},
		{1, "n", "o", []int{1}},
		{1, "p\x00", "z", nil},
		{0, "a", "z", []int{5, 3}},
		{0, "a", "c", []int{3}},
		{0, "f", "g", []int{5}},
		{2, "x", "y", []int{6}},
		{3, "a", "z", nil},
		{-1, "a", "z", nil},
		{6, "a", "z", nil},
		{math.MaxInt, "a", "z", nil},
		// Of a span whose ends are turned these are still the files that are neither ahead of low nor behind high.
		{1, "n", "d", nil},
		{2, "n", "d", []int{6}},
	} {
		if got := nums(Meets(v, c.level, c.low, c.high)); !slices.Equal(got, c.want) {
			t.Errorf("Meets of %d, %q to %q: %v, want %v", c.level, c.low, c.high, got, c.want)
		}
	}
	had := fmt.Sprint(v)
	clear(Meets(v, 1, "a", "z"))
	if fmt.Sprint(v) != had {
		t.Error("Meets shares its files")
	}
}

// picks tells whether Pick answers a job, of files that are those of the version.
func picks(t *testing.T, what string, v edit.Version, c Conf, in []int, out int) {
	t.Helper()
	if v.Check() != api.OK || c.Check() != api.OK {
		t.Errorf("%s: not right", what)
	}
	j, ok := Pick(v, c)
	if !ok || j.Out != out || !slices.Equal(nums(j.In), in) {
		t.Errorf("%s: Pick: %v %d %v, want %v %d", what, nums(j.In), j.Out, ok, in, out)
	}
	for _, f := range j.In {
		if !slices.Contains(v.Files, f) {
			t.Errorf("%s: Pick: %v isn't there", what, f)
		}
	}
}

// picksNone tells whether Pick answers that there is nothing to be done.
func picksNone(t *testing.T, what string, v edit.Version, c Conf) {
	t.Helper()
	if j, ok := Pick(v, c); ok || j.Out != 0 || len(j.In) != 0 {
		t.Errorf("%s: Pick: %v %d %v", what, nums(j.In), j.Out, ok)
	}
}

// P16.2: the first level's files, from so many on, with what of the second one they meet together.
func TestPickFirst(t *testing.T) {
	v := of(meta(1, 1, "a", "c", 50), meta(2, 1, "e", "g", 60), meta(3, 2, "b", "f", 9), meta(4, 0, "d", "e", 1), meta(5, 0, "f", "f", 1), meta(6, 1, "x", "z", 5))
	picks(t, "two", v, Conf{2, 1000, 10}, []int{5, 4, 2}, 1)
	picks(t, "more than one", v, Conf{1, 1, 10}, []int{5, 4, 2}, 1)
	picksNone(t, "fewer than three", v, Conf{3, 1000, 10})
	// What lies between them is met, too; by their order, not by their numbers.
	w := of(meta(1, 0, "x", "y", 1), meta(2, 1, "m", "n", 1), meta(3, 1, "c", "d", 1), meta(4, 0, "a", "b", 1), meta(5, 1, "y", "z", 1), meta(6, 1, "z\x00", "zz", 1))
	picks(t, "between", w, Conf{2, 1000, 10}, []int{4, 1, 3, 2, 5}, 1)
	picks(t, "nothing met", of(meta(1, 1, "c", "d", 1), meta(2, 0, "a", "b", 1), meta(3, 2, "a", "b", 1)), Conf{1, 1, 1}, []int{2}, 1)
	// One that has all keys of another one.
	x := of(meta(1, 0, "b", "y", 1), meta(2, 0, "f", "g", 1), meta(3, 1, "a", "b", 1), meta(4, 1, "x", "y", 1), meta(5, 1, "y\x00", "z", 1))
	picks(t, "wide", x, Conf{2, 1000, 1}, []int{2, 1, 3, 4}, 1)
}

// P16.2: of the levels behind the first one, that with more bytes than it has room for: four times as many as the one ahead; the last one has room for all.
func TestPickSize(t *testing.T) {
	for n, room := range map[int]int{1: 100, 2: 400, 3: 1600, 4: 6400} {
		what := fmt.Sprint("level ", n)
		v := of(meta(2, n+1, "a", "c", 1), meta(3, n, "m", "n", room-30), meta(5, n, "b", "d", 20), meta(6, n+1, "d", "e", 1), meta(7, n+1, "m", "m", 1), meta(8, n, "x", "y", 10))
		picksNone(t, what, v, Conf{100, 100, 1})
		v.Files[2].Size++
		picks(t, what, v, Conf{100, 100, 1}, []int{3, 7}, n+1)
		// The least number it is, wherever its keys stand.
		v.Files[2], v.Files[1] = meta(5, n, "m", "n", room), meta(3, n, "b", "d", 21)
		picks(t, what, v, Conf{100, 100, 1}, []int{3, 2, 6}, n+1)
	}
	picksNone(t, "level 5", of(meta(1, 5, "a", "b", 1<<26), meta(2, 5, "c", "d", 1<<26)), Conf{1, 1, 1})
	picksNone(t, "nothing", of(), Conf{1, 1, 1})
	picksNone(t, "files of no bytes", of(meta(1, 1, "a", "b", 0), meta(2, 4, "a", "b", 0)), Conf{1, 1, 1})
	picksNone(t, "the greatest room", of(meta(1, 4, "a", "b", 1<<26)), Conf{1, 1 << 26, 1})
	v := of(meta(1, 1, "a", "b", 1), meta(2, 2, "a", "b", 401), meta(3, 3, "a", "b", 9000), meta(4, 0, "a", "b", 9000))
	picks(t, "the first that is over", v, Conf{2, 100, 1}, []int{2, 3}, 3)
	picks(t, "the first level, ahead of all", v, Conf{1, 100, 1}, []int{4, 1}, 1)
}

// P16.2: whether files beneath have keys between those of a job.
func TestBottom(t *testing.T) {
	v := of(meta(1, 1, "c", "d", 1), meta(2, 2, "f", "g", 1), meta(3, 3, "k", "m", 1), meta(4, 5, "p", "q", 1), meta(5, 0, "a", "z", 1))
	job := func(out int, list ...edit.Meta) Job { return Job{In: list, Out: out} }
	for what, c := range map[string]struct {
		j    Job
		want bool
	}{
		"nothing goes in":        {job(1), true},
		"nothing, ahead of all":  {job(-1), true},
		"nothing beneath":        {job(1, meta(9, 0, "a", "e", 1)), true},
		"its end":                {job(1, meta(9, 0, "a", "f", 1)), false},
		"its beginning":          {job(1, meta(9, 0, "g", "h", 1)), false},
		"behind it":              {job(1, meta(9, 0, "g\x00", "h", 1)), true},
		"within":                 {job(1, meta(9, 0, "l", "l", 1)), false},
		"of the level itself":    {job(3, meta(9, 2, "l", "l", 1)), true},
		"the last level":         {job(4, meta(9, 3, "o", "r", 1)), false},
		"nothing behind the end": {job(5, meta(9, 4, "o", "r", 1)), true},
		"between two that go in": {job(2, meta(9, 1, "h", "i", 1), meta(8, 2, "n", "o", 1)), false},
		"one in another":         {job(3, meta(9, 1, "a", "p", 1), meta(8, 2, "n", "o", 1)), false},
		"in turned order":        {job(3, meta(9, 2, "q", "r", 1), meta(8, 2, "a", "b", 1)), false},
		"beside":                 {job(2, meta(9, 1, "h", "i", 1), meta(8, 2, "i", "j", 1)), true},
		"ahead of all levels":    {job(-1, meta(9, 0, "b", "b", 1)), false},
		"far ahead":              {job(math.MinInt, meta(9, 0, "zz", "zz", 1)), true},
		"far behind":             {job(math.MaxInt, meta(9, 0, "a", "z", 1)), true},
	} {
		if got := Bottom(v, c.j); got != c.want {
			t.Errorf("Bottom, %s: %v", what, got)
		}
	}
}

// rolled is a version that is right, of some files in all levels.
func rolled(r *dice) edit.Version {
	v := of()
	for num := range 12 {
		low := fmt.Sprintf("%02d", r.roll(30))
		high := fmt.Sprintf("%02d", min(29, r.roll(8)+int(low[0]-'0')*10+int(low[1]-'0')))
		level := r.roll(6)
		// The greater levels have greater files, so that each of them comes to be the first that is over.
		if w, e := v.Apply(edit.Edit{Add: []edit.Meta{meta(num+1, level, low, max(low, high), r.roll(8)<<(2*level))}}); e == api.OK {
			v = w
		}
	}
	return v
}

// meets tells whether two files have keys between each other's.
func meets(f, g edit.Meta) bool {
	return f.Low <= g.High && g.Low <= f.High
}

// span is a file from the least to the greatest key of some.
func span(list []edit.Meta) edit.Meta {
	var keys []string
	for _, f := range list {
		keys = append(keys, f.Low, f.High)
	}
	return edit.Meta{Low: slices.Min(keys), High: slices.Max(keys)}
}

// picked is the job that Pick has to answer, in any order; 0: there is none.
func picked(v edit.Version, c Conf) ([]int, int) {
	levels := make([][]edit.Meta, 6)
	for _, f := range v.Files {
		levels[f.Level] = append(levels[f.Level], f)
	}
	for n := range 5 {
		bytes, room := 0, c.Size
		for _, f := range levels[n] {
			bytes += f.Size
		}
		for range n - 1 {
			room *= 4
		}
		var in []edit.Meta
		if n == 0 && len(levels[0]) >= c.Files {
			in = levels[0]
		} else if n > 0 && bytes > room {
			in = levels[n][:1] // files stand by number
		} else {
			continue
		}
		all := nums(in)
		for _, f := range levels[n+1] {
			if meets(span(in), f) {
				all = append(all, f.Num)
			}
		}
		return all, n + 1
	}
	return nil, 0
}

// P16.2: Pick, Bottom and Meets, held against all files one by one.
func TestPickRolled(t *testing.T) {
	r, outs, bottoms := dice(7), [6]int{}, [2]int{}
	for range 5000 {
		v := rolled(&r)
		c := Conf{1 + r.roll(5), 1 + r.roll(40), 1}
		had := fmt.Sprint(v)
		j, ok := Pick(v, c)
		in, out := picked(v, c)
		outs[out]++
		got := nums(j.In)
		slices.Sort(got)
		slices.Sort(in)
		if !slices.Equal(got, in) || j.Out != out || ok != (out > 0) {
			t.Fatalf("%v of %v: %v %d %v, want %v %d", c, v, got, j.Out, ok, in, out)
		}
		want := true
		for _, f := range v.Files {
			want = want && !(ok && f.Level > out && meets(f, span(j.In)))
		}
		if ok && want {
			bottoms[0]++
		} else if ok {
			bottoms[1]++
		}
		if Bottom(v, j) != want {
			t.Fatalf("Bottom of %v, %v: not %v", v, j, want)
		}
		clear(j.In)
		if fmt.Sprint(v) != had {
			t.Fatal("Pick shares its files")
		}
	}
	if slices.Min(outs[:]) < 20 || slices.Min(bottoms[:]) < 100 {
		t.Error(outs, bottoms)
	}
}

// P16.2: what isn't right ends, too, and doesn't panic.
func TestPickWrong(t *testing.T) {
	wrong := []edit.Version{{}, of(), of(meta(-5, 0, "z", "a", -1), meta(-5, 1, "", "", math.MinInt), meta(1, 9, "a", "b", 1)), of(meta(1, 4, "a", "b", math.MaxInt), meta(2, 4, "a", "b", math.MaxInt), meta(1, -1, "", "", 0))}
	numbers := []int{math.MinInt, -1, 0, 1, 1 << 62, math.MaxInt}
	for _, v := range wrong {
		for _, files := range numbers {
			for _, size := range numbers {
				j, _ := Pick(v, Conf{files, size, 0})
				for _, out := range numbers {
					Bottom(v, j)
					Bottom(v, Job{In: v.Files, Out: out})
				}
			}
		}
	}
}
