package store

import (
	"fmt"
	"math"
	"strings"
	"testing"

	"tailrace/api"
	"tailrace/disk"
	"tailrace/edit"
	"tailrace/key"
)

// gets tells whether a key has a value by a number; "-" is none.
func gets(t *testing.T, what string, s *Store, name string, seq uint64, want string) {
	t.Helper()
	v, ok, e := s.Get(name, seq)
	if want == "-" && (v != "" || ok || e != api.OK) || want != "-" && (v != want || !ok || e != api.OK) {
		t.Errorf("%s: %q by %d: %q %v %d, want %q", what, name, seq, v, ok, e, want)
	}
}

// scans tells whether Scan answers just these keys.
func scans(t *testing.T, s *Store, from, to string, seq uint64, most int, want string) {
	t.Helper()
	list, e := s.Scan(from, to, seq, most)
	if shown(list) != want || e != api.OK {
		t.Errorf("from %q to %q by %d, %d at most: %q %d, want %q", from, to, seq, most, shown(list), e, want)
	}
}

// spread is a store whose changes of a stand in memory, and in files of three levels; by Snaps all of them are seen.
func spread(t *testing.T, d *disk.Disk) *Store {
	t.Helper()
	s := opens(t, "new", d)
	s.Snap()
	for _, words := range []string{"a=1", "b=2", "a-", "a=4", "c=5", "b-", "a=7"} {
		puts(t, s, words)
		s.Snap()
		if s.Seq()%2 == 0 {
			flushes(t, s)
		}
		if s.Seq() == 4 {
			compacts(t, s)
		}
	}
	return s
}

// P17.3: what keys are by each number, wherever their changes stand.
func TestGet(t *testing.T) {
	d := disk.New(1 << 16)
	s := spread(t, d)
	v := s.Version()
	if len(v.Of(0)) != 1 || len(v.Of(1)) == 0 || s.Size() == 0 {
		t.Fatal(v)
	}
	for _, s := range []*Store{s, opens(t, "again", d)} {
		for seq, want := range []string{"", "a=1", "a=1 b=2", "b=2", "a=4 b=2", "a=4 b=2 c=5", "a=4 c=5", "a=7 c=5"} {
			sees(t, "spread", s, uint64(seq), want)
			for _, name := range []string{"a", "b", "c"} {
				if !strings.Contains(want, name) {
					gets(t, "spread", s, name, uint64(seq), "-")
				}
			}
		}
		for _, seq := range []uint64{8, key.MaxSeq, key.MaxSeq + 1, math.MaxUint64} {
			sees(t, "spread", s, seq, "a=7 c=5")
			gets(t, "spread", s, "b", seq, "-")
		}
		for _, name := range []string{"", "0", "aa", "bb", "d", "\xff", strings.Repeat("a", 129), strings.Repeat("b", 1000)} {
			gets(t, "no such key", s, name, 7, "-")
			gets(t, "no such key", s, name, math.MaxUint64, "-")
		}
		for name, want := range map[string]string{"a": "7", "c": "5"} {
			if v, ok, e := s.Now(name); v != want || !ok || e != api.OK {
				t.Error(name, v, ok, e)
			}
		}
		if v, ok, e := s.Now("b"); v != "" || ok || e != api.OK {
			t.Error(v, ok, e)
		}
	}
}

// P17.3: by a number below its own a value that is empty is there, too.
func TestGetEmpty(t *testing.T) {
	s := opens(t, "new", disk.New(1000))
	puts(t, s, "a=", "a-")
	gets(t, "empty", s, "a", 1, "")
	gets(t, "gone", s, "a", 2, "-")
	gets(t, "not yet", s, "a", 0, "-")
}

// P17.3: from where on, up to where, how many.
func TestScan(t *testing.T) {
	d := disk.New(1 << 16)
	s := opens(t, "new", d)
	puts(t, s, "a=1 ab=2 b=3 c=4 d=5 e=6")
	flushes(t, s)
	puts(t, s, "b- bb=8 e=9")
	flushes(t, s)
	compacts(t, s)
	puts(t, s, "c- f=11 aa=12")
	flushes(t, s)
	puts(t, s, "d- ab=14 g=15")
	for _, s := range []*Store{s, opens(t, "again", d)} {
		for _, x := range []struct {
			from, to string
			most     int
			want     string
		}{
			{"", "", 99, "a=1 aa=12 ab=14 bb=8 e=9 f=11 g=15"},
			{"", "", math.MaxInt, "a=1 aa=12 ab=14 bb=8 e=9 f=11 g=15"},
			{"", "", 7, "a=1 aa=12 ab=14 bb=8 e=9 f=11 g=15"},
			{"", "", 6, "a=1 aa=12 ab=14 bb=8 e=9 f=11"},
			{"", "", 4, "a=1 aa=12 ab=14 bb=8"},
			{"", "", 1, "a=1"},
			{"", "", 0, ""},
			{"", "", -1, ""},
			{"", "", math.MinInt, ""},
			{"a", "b", 99, "a=1 aa=12 ab=14"},
			{"a\x00", "b", 99, "aa=12 ab=14"},
			{"ab", "bb", 99, "ab=14"},
			{"ab", "bb\x00", 99, "ab=14 bb=8"},
			{"b", "", 99, "bb=8 e=9 f=11 g=15"},
			{"b", "", 2, "bb=8 e=9"},
			{"bb", "g", 99, "bb=8 e=9 f=11"},
			{"g", "", 99, "g=15"},
			{"g\x00", "", 99, ""},
			{"b", "b", 99, ""},
			{"e", "b", 99, ""},
			{"e", "a", 1, ""},
			{"", "a", 99, ""},
			{"", "a\x00", 99, "a=1"},
			{strings.Repeat("b", 500), strings.Repeat("f", 500), 99, "e=9 f=11"},
		} {
			scans(t, s, x.from, x.to, math.MaxUint64, x.most, x.want)
			scans(t, s, x.from, x.to, s.Seq(), x.most, x.want)
		}
		if list, e := s.Scan("e", "f", key.MaxSeq, 1); e != api.OK || list[0] != (Change{Key: "e", Val: "9"}) {
			t.Error(list, e)
		}
	}
}

// P17.3: all that begin so, bytes of 255 at the end of what they begin with included.
func TestPrefix(t *testing.T) {
	d := disk.New(1 << 16)
	s := opens(t, "new", d)
	for _, name := range []string{"a", "a\x00", "a\xfe\xff", "a\xff", "a\xff\x00", "a\xff\xff", "b", "b\x00", "\xfe\xff", "\xff", "\xff\x00", "\xff\xff", "\xff\xff\xff"} {
		must(t, "Put", s.Put([]Change{{Key: name, Val: name}}), api.OK)
		if s.Seq() == 6 {
			flushes(t, s)
		}
	}
	puts(t, s, "ax=1 ay=1", "ay-")
	for _, x := range []struct {
		p    string
		most int
		want []string
	}{
		{"a", 99, []string{"a", "a\x00", "ax", "a\xfe\xff", "a\xff", "a\xff\x00", "a\xff\xff"}},
		{"a", 3, []string{"a", "a\x00", "ax"}},
		{"a", 0, nil},
		{"a", -9, nil},
		{"a\xff", 99, []string{"a\xff", "a\xff\x00", "a\xff\xff"}},
		{"a\xff\xff", 99, []string{"a\xff\xff"}},
		{"a\xff\xff\xff", 99, nil},
		{"a\xfe", 99, []string{"a\xfe\xff"}},
		{"ax", 99, []string{"ax"}},
		{"ay", 99, nil},
		{"b", 99, []string{"b", "b\x00"}},
		{"c", 99, nil},
		{"\xff", 99, []string{"\xff", "\xff\x00", "\xff\xff", "\xff\xff\xff"}},
		{"\xff\xff", 99, []string{"\xff\xff", "\xff\xff\xff"}},
		{"\xff\xff\xff\xff", 99, nil},
		{"\xfe", 99, []string{"\xfe\xff"}},
		{"", 2, []string{"a", "a\x00"}},
		{"", 99, []string{"a", "a\x00", "ax", "a\xfe\xff", "a\xff", "a\xff\x00", "a\xff\xff", "b", "b\x00", "\xfe\xff", "\xff", "\xff\x00", "\xff\xff", "\xff\xff\xff"}},
		{strings.Repeat("a", 200), 99, nil},
		{strings.Repeat("\xff", 200), 99, nil},
	} {
		list, e := s.Prefix(x.p, x.most)
		var got []string
		for _, c := range list {
			got = append(got, c.Key)
		}
		if fmt.Sprintf("%q", got) != fmt.Sprintf("%q", x.want) || e != api.OK {
			t.Errorf("%q, %d at most: %q %d, want %q", x.p, x.most, got, e, x.want)
		}
	}
}

// fails tells whether Get, and Scan of that key alone, answer an error, and nothing else.
func fails(t *testing.T, what string, s *Store, name string, seq uint64, want api.Errno) {
	t.Helper()
	if v, ok, e := s.Get(name, seq); v != "" || ok || e != want {
		t.Errorf("%s: %q by %d: %q %v %d, want %d", what, name, seq, v, ok, e, want)
	}
	if list, e := s.Scan(name, name+"\x00", seq, 9); len(list) != 0 || e != want {
		t.Errorf("%s: %q by %d: %q %d, want %d", what, name, seq, shown(list), e, want)
	}
}

// P17.3: with the power off what stands in memory is told, and that there is nothing where no file has such keys; all else is ErrDown.
func TestLookDown(t *testing.T) {
	d := disk.New(1 << 16)
	s := opens(t, "new", d)
	puts(t, s, "b=1 d=2")
	flushes(t, s)
	puts(t, s, "b=3 c-")
	d.Fuse(1)
	must(t, "the power goes", s.Sync(), api.ErrDown)
	gets(t, "in memory", s, "b", 3, "3")
	gets(t, "in memory", s, "c", 9, "-")
	gets(t, "ahead of all", s, "a", 9, "-")
	gets(t, "behind all", s, "e", 9, "-")
	scans(t, s, "e", "", 9, 9, "")
	scans(t, s, "", "b", 9, 9, "")
	scans(t, s, "", "", 9, 0, "")
	scans(t, s, "c", "b", 9, 9, "")
	scans(t, s, "c", "bb", 9, 9, "")
	scans(t, s, "c", "c", 9, 9, "")
	fails(t, "down", s, "d", 9, api.ErrDown)
	fails(t, "down", s, "b", 1, api.ErrDown)
	if v, ok, e := s.Now("d"); v != "" || ok || e != api.ErrDown {
		t.Error(v, ok, e)
	}
	if list, e := s.Prefix("d", 1); len(list) != 0 || e != api.ErrDown {
		t.Error(shown(list), e)
	}
	if list, e := s.Scan("", "", 9, 1); len(list) != 0 || e != api.ErrDown {
		t.Error(shown(list), e)
	}
	d.Crash(nil)
	gets(t, "on again", s, "d", 9, "2")
}

// P17.3: a file need not be looked at for a key that is ahead of all of its own, though its filter has that key's bits.
func TestLookAhead(t *testing.T) {
	d := disk.New(1 << 16)
	s := opens(t, "new", d)
	for i := range 100 {
		puts(t, s, fmt.Sprintf("b%d=1", i))
	}
	flushes(t, s)
	d.Fuse(1)
	must(t, "the power goes", s.Sync(), api.ErrDown)
	for i := range 3000 {
		gets(t, "ahead", s, fmt.Sprint("a", i), 999, "-")
		gets(t, "behind", s, fmt.Sprint("c", i), 999, "-")
	}
}

// P17.3: a page that can't be read is told where it must be looked at, and only there.
func TestLookBad(t *testing.T) {
	d := disk.New(1 << 16)
	s := opens(t, "new", d)
	puts(t, s, "a=1 b=2 c=3 d=4")
	flushes(t, s)
	puts(t, s, "e=5 f=6 g=7 h=8")
	flushes(t, s)
	compacts(t, s)
	puts(t, s, "b=9 h=10")
	flushes(t, s)
	puts(t, s, "g=11")
	// The files of level 1 are a and b, c and d, e and f, g and h; file.7 has b and h.
	if v := s.Version(); len(v.Of(1)) != 4 || v.Of(1)[3].Low != "g" || v.Of(0)[0].Num != 7 {
		t.Fatal(v)
	}
	must(t, "Spoil", d.Spoil("file.6", 20, 1), api.OK)
	fails(t, "file.6", s, "g", 7, api.ErrBad)
	gets(t, "newer, in file.7", s, "h", 10, "10")
	fails(t, "older than file.7", s, "h", 9, api.ErrBad)
	gets(t, "in memory", s, "g", 11, "11")
	scans(t, s, "", "g", 99, 99, "a=1 b=9 c=3 d=4 e=5 f=6")
	scans(t, s, "", "", 99, 6, "a=1 b=9 c=3 d=4 e=5 f=6")
	scans(t, s, "h\x00", "", 99, 99, "")
	if list, e := s.Scan("", "", 99, 7); len(list) != 0 || e != api.ErrBad {
		t.Error(shown(list), e)
	}
	must(t, "Spoil", d.Spoil("file.7", 20, 1), api.OK)
	fails(t, "file.7", s, "b", 99, api.ErrBad)
	fails(t, "file.7", s, "h", 99, api.ErrBad)
	gets(t, "beside file.7", s, "a", 99, "1")
	must(t, "Spoil", d.Spoil("file.6", 20, 1), api.OK)
	must(t, "Spoil", d.Spoil("file.7", 20, 1), api.OK)
	sees(t, "as it was", s, 99, "a=1 b=9 c=3 d=4 e=5 f=6 g=11 h=10")
	must(t, "Remove", d.Remove("file.6"), api.OK)
	fails(t, "without file.6", s, "h", 9, api.ErrBad)
}

// P17.3: files of many levels, laid by hand: the newest is found, and each number has its own.
func TestLookLevels(t *testing.T) {
	d := disk.New(1 << 16)
	var x edit.Edit
	// Of a level the files are of a to e, f to j, and so on; each key has two changes in each level, the newest above.
	for n := range 6 {
		for _, from := range []byte("afkp") {
			var list []key.Entry
			for c := range 5 {
				name := string(rune(int(from) + c))
				list = append(list, set(name, uint64(100-10*n)), set(name, uint64(95-10*n)))
			}
			num := len(x.Add) + 1
			x.Add = append(x.Add, lays(t, d, num, n, list...))
		}
	}
	x.Next, x.Seq = len(x.Add)+1, 100
	edited(t, d, x)
	s := opens(t, "levels", d)
	for _, name := range []string{"a", "e", "f", "j", "k", "t"} {
		for seq := uint64(0); seq < 110; seq++ {
			want := "-"
			if at := min(seq, 100) / 5 * 5; at >= 45 {
				want = fmt.Sprint(at)
			}
			gets(t, "levels", s, name, seq, want)
		}
	}
	for seq := uint64(40); seq < 110; seq++ {
		list, e := s.Scan("b", "r", seq, 99)
		if n := len(list); e != api.OK || seq < 45 && n != 0 || seq >= 45 && n != 16 {
			t.Fatal(seq, n, e)
		}
		for i, c := range list {
			if c.Key != string(rune('b'+i)) || c.Val != fmt.Sprint(min(seq, 100)/5*5) {
				t.Error(seq, c)
			}
		}
	}
}

// P17.3: a number is held as often as it was asked for; what is seen by it stays.
func TestSnap(t *testing.T) {
	s := opens(t, "new", disk.New(1<<16))
	if s.Free(0) || s.Snap() != 0 || !s.Free(0) || s.Free(0) {
		t.Error("0")
	}
	puts(t, s, "a=1")
	if s.Snap() != 1 || s.Snap() != 1 || s.Free(0) || s.Free(2) || s.Free(math.MaxUint64) {
		t.Error("1")
	}
	puts(t, s, "a=2", "a=3")
	if s.Snap() != 3 {
		t.Error("3")
	}
	puts(t, s, "a-")
	flushes(t, s)
	for range 2 {
		gets(t, "held", s, "a", 1, "1")
		gets(t, "not held", s, "a", 2, "1")
		gets(t, "held", s, "a", 3, "3")
		gets(t, "the newest", s, "a", 4, "-")
		puts(t, s, "b=5")
		flushes(t, s)
		if v := s.Version(); len(v.Of(0)) > 1 {
			compacts(t, s)
		}
	}
	if !s.Free(1) {
		t.Error("Free")
	}
	again := func() {
		puts(t, s, "b=6")
		flushes(t, s)
		puts(t, s, "b=7")
		flushes(t, s)
		compacts(t, s)
	}
	again()
	gets(t, "held once more", s, "a", 1, "1")
	if !s.Free(1) || s.Free(1) {
		t.Error("Free")
	}
	puts(t, s, "a-")
	flushes(t, s)
	again()
	gets(t, "held no more", s, "a", 1, "-")
	gets(t, "held", s, "a", 3, "3")
	if !s.Free(3) || s.Free(3) {
		t.Error("Free")
	}
}

// P17.3: what a Snap holds is held in memory's file, and by this Store alone.
func TestSnapOfOne(t *testing.T) {
	d := disk.New(1 << 16)
	s := opens(t, "new", d)
	puts(t, s, "a=1")
	s.Snap()
	other := opens(t, "other", d)
	if other.Free(1) {
		t.Error("Free")
	}
	puts(t, s, "a=2")
	other = opens(t, "other", d)
	flushes(t, other)
	gets(t, "not held", other, "a", 1, "-")
	gets(t, "held", s, "a", 1, "1")
}
