package store

import (
	"fmt"
	"slices"
	"strings"
	"testing"

	"tailrace/api"
	"tailrace/disk"
	"tailrace/edit"
	"tailrace/file"
	"tailrace/key"
	"tailrace/level"
)

// fileIs tells whether a file has just these changes.
func fileIs(t *testing.T, d *disk.Disk, name string, list ...key.Entry) {
	t.Helper()
	want, e := file.Make(list)
	must(t, "Make", e, api.OK)
	b, e := d.Read(name, 0, disk.MaxRoom)
	if string(b) != string(want) || e != api.OK {
		t.Errorf("%s: %q %d, want %q", name, b, e, want)
	}
}

// versionIs tells whether a store has a version, and one that is opened has it, too.
func versionIs(t *testing.T, s *Store, d *disk.Disk, want edit.Version) {
	t.Helper()
	must(t, "Check", want.Check(), api.OK)
	for _, v := range []edit.Version{s.Version(), opens(t, "again", d).Version()} {
		if fmt.Sprint(v) != fmt.Sprint(want) {
			t.Errorf("%v, want %v", v, want)
		}
	}
}

// size is how many bytes a file has.
func size(t *testing.T, d *disk.Disk, name string) int {
	t.Helper()
	n, e := d.Size(name)
	must(t, "Size of "+name, e, api.OK)
	return n
}

// P17.4: what stands in memory is a file then, kept by the Snaps; the log begins anew.
func TestFlush(t *testing.T) {
	d := disk.New(1 << 16)
	s := opens(t, "new", d)
	puts(t, s, "a=1 b=2", "a=3 c-")
	if s.Snap() != 4 {
		t.Error("Snap")
	}
	puts(t, s, "a=5", "a=6")
	flushes(t, s)
	one := edit.Meta{Num: 1, Low: "a", High: "c", Size: size(t, d, "file.1")}
	fileIs(t, d, "file.1", set("a", 6), set("a", 3), set("b", 2), key.Entry{Key: "c", Seq: 4, Del: true})
	versionIs(t, s, d, edit.Version{Files: []edit.Meta{one}, Log: 2, Next: 2, Seq: 6})
	if s.Size() != 0 || s.Seq() != 6 || names(d) != "file.1 log.1 log.2 man.1 now" {
		t.Error(s.Size(), s.Seq(), names(d))
	}
	had := all(d)
	flushes(t, s)
	if all(d) != had {
		t.Error("a Flush of nothing")
	}
	puts(t, s, "b-")
	if names(d) != "file.1 log.1 log.2 man.1 now" {
		t.Error(names(d))
	}
	s = opens(t, "again", d)
	flushes(t, s)
	two := edit.Meta{Num: 2, Low: "b", High: "b", Size: size(t, d, "file.2")}
	fileIs(t, d, "file.2", key.Entry{Key: "b", Seq: 7, Del: true})
	versionIs(t, s, d, edit.Version{Files: []edit.Meta{one, two}, Log: 3, Next: 3, Seq: 7})
	sees(t, "flushed", s, key.MaxSeq, "a=6")
}

// P17.4: with the power off, with nothing in memory, and with as many files as there may be.
func TestFlushErrors(t *testing.T) {
	d := disk.New(1 << 20)
	var x edit.Edit
	for n := 1; n <= edit.MostFiles-1; n++ {
		x.Add = append(x.Add, lays(t, d, n, 0, set("a", uint64(n))))
	}
	x.Next, x.Seq = edit.MostFiles, edit.MostFiles-1
	edited(t, d, x)
	s := opens(t, "many files", d)
	puts(t, s, "b=1")
	flushes(t, s)
	flushes(t, s)
	puts(t, s, "c=1")
	kept(t, "the most files", s, d, api.ErrMany, func() api.Errno { return s.Flush() })
	d.Fuse(1)
	must(t, "the power goes", s.Sync(), api.ErrDown)
	must(t, "down, and many", s.Flush(), api.ErrDown)
	d = disk.New(99)
	s = opens(t, "new", d)
	d.Fuse(1)
	must(t, "the power goes", d.Create("x"), api.ErrDown)
	must(t, "down, and nothing", s.Flush(), api.ErrDown)
	d.Crash(nil)
	must(t, "nothing", s.Flush(), api.OK)
	if names(d) != "" {
		t.Error(names(d))
	}
}

// kept tells whether a call answers an error, and nothing is other than it was, on the disk neither.
func kept(t *testing.T, what string, s *Store, d *disk.Disk, want api.Errno, call func() api.Errno) {
	t.Helper()
	had, was := all(d), state(s)
	must(t, what, call(), want)
	if all(d) != had || state(s) != was {
		t.Errorf("%s: %s, was %s; disk %s, was %s", what, state(s), was, all(d), had)
	}
}

// state is what a store tells but its keys.
func state(s *Store) string {
	return fmt.Sprint(s.Seq(), s.Size(), s.Version(), s.Live())
}

// P17.4, P17.5: numbers of files end ahead of the greatest one.
func TestLastFiles(t *testing.T) {
	d := disk.New(1 << 16)
	edited(t, d, edit.Edit{Next: edit.MostNum - 3})
	s := opens(t, "near the end", d)
	for range 2 {
		puts(t, s, "a=1 b=2 c=3 d=4")
		flushes(t, s)
	}
	// Two files would be those of the numbers MostNum - 1 and MostNum.
	kept(t, "Compact", s, d, api.ErrMany, func() api.Errno {
		did, e := s.Compact()
		if did {
			t.Error("Compact")
		}
		return e
	})
	great := little
	great.Level.Cut = 1000
	s, e := Open(d, great)
	must(t, "Open", e, api.OK)
	puts(t, s, "e=9")
	// One file has the number MostNum - 1.
	compacts(t, s)
	if v := s.Version(); v.Next != edit.MostNum || len(v.Files) != 1 || v.Files[0].Num != edit.MostNum-1 {
		t.Error(v)
	}
	kept(t, "Flush", s, d, api.ErrMany, s.Flush)
	sees(t, "the end", opens(t, "again", d), key.MaxSeq, "a=1 b=2 c=3 d=4 e=9")
}

// P17.5: no number is needed for what comes to nothing.
func TestLastFilesOfNothing(t *testing.T) {
	d := disk.New(1 << 16)
	gone := key.Entry{Key: "a", Seq: 2, Del: true}
	edited(t, d, edit.Edit{Next: edit.MostNum, Seq: 2, Add: []edit.Meta{lays(t, d, 1, 0, set("a", 1)), lays(t, d, 2, 0, gone)}})
	s := opens(t, "nothing", d)
	compacts(t, s)
	versionIs(t, s, d, edit.Version{Log: 1, Next: edit.MostNum, Seq: 2})
	if strings.Join(s.Live(), " ") != "man.2 now" {
		t.Error(s.Live())
	}
}

// P17.4: a file that a crash left by the next number is removed first.
func TestFlushInTheWay(t *testing.T) {
	d := disk.New(1 << 16)
	holds(t, d, "file.1", "half a file")
	s := opens(t, "new", d)
	puts(t, s, "a=1")
	flushes(t, s)
	fileIs(t, d, "file.1", set("a", 1))
	sees(t, "flushed", opens(t, "again", d), key.MaxSeq, "a=1")
}

// P17.4: on a disk that fills up all is as it was, but for the log's part; and with room enough it is done.
func TestFlushFull(t *testing.T) {
	use := disk.New(1 << 16)
	s := opens(t, "new", use)
	puts(t, s, "a=1 b=2", "a=3")
	before := use.Used()
	flushes(t, s)
	done := 0
	for room := before; room < use.Used()+3; room++ {
		for _, again := range []bool{false, true} {
			what := fmt.Sprint("room ", room, " again ", again)
			d := disk.New(room)
			s := opens(t, what, d)
			puts(t, s, "a=1 b=2", "a=3")
			if again {
				s = opens(t, what, d)
			}
			had, was := others(d), fmt.Sprint(s.Seq(), s.Size(), s.Version())
			e := s.Flush()
			if room >= use.Used() {
				must(t, what, e, api.OK)
				done++
				continue
			}
			must(t, what, e, api.ErrFull)
			if others(d) != had || fmt.Sprint(s.Seq(), s.Size(), s.Version()) != was {
				t.Errorf("%s: %s %s, was %s %s", what, state(s), others(d), was, had)
			}
			sees(t, what, s, key.MaxSeq, "a=3 b=2")
			sees(t, what, opens(t, what, d), key.MaxSeq, "a=3 b=2")
		}
	}
	if done != 6 {
		t.Error(done)
	}
}

// others is the files of a disk but those of the log.
func others(d *disk.Disk) string {
	x := d.Clone()
	x.Fuse(0)
	for _, name := range x.List() {
		if strings.HasPrefix(name, "log.") {
			x.Remove(name)
		}
	}
	return all(x)
}

// P17.5: what the files of a level come to, which of them go, and what is not done.
func TestCompact(t *testing.T) {
	d := disk.New(1 << 16)
	s := opens(t, "new", d)
	nothing := func() {
		t.Helper()
		kept(t, "nothing to do", s, d, api.OK, func() api.Errno {
			did, e := s.Compact()
			if did {
				t.Error("Compact did something")
			}
			return e
		})
	}
	nothing()
	puts(t, s, "a=1 b=2 c=3 d=4")
	flushes(t, s)
	nothing()
	if s.Snap() != 4 {
		t.Error("Snap")
	}
	puts(t, s, "b- d=6 e- f=8")
	puts(t, s, "d=9")
	flushes(t, s)
	puts(t, s, "x=10")
	compacts(t, s)
	// Nothing is beneath: so that e is gone isn't kept; the Snap holds b and d.
	fileIs(t, d, "file.3", set("a", 1), key.Entry{Key: "b", Seq: 5, Del: true}, set("b", 2))
	fileIs(t, d, "file.4", set("c", 3), set("d", 9), set("d", 4))
	fileIs(t, d, "file.5", set("f", 8))
	want := edit.Version{Log: 3, Next: 6, Seq: 9}
	for n, ends := range []string{"ab", "cd", "ff"} {
		name := edit.FileName(3 + n)
		want.Files = append(want.Files, edit.Meta{Num: 3 + n, Level: 1, Low: ends[:1], High: ends[1:], Size: size(t, d, name)})
	}
	versionIs(t, s, d, want)
	if names(d) != "file.1 file.2 file.3 file.4 file.5 log.1 log.2 log.3 man.1 now" {
		t.Error(names(d))
	}
	if s.Size() != 19 {
		t.Error(s.Size())
	}
	sees(t, "compacted", s, key.MaxSeq, "a=1 c=3 d=9 f=8 x=10")
	sees(t, "compacted", s, 4, "a=1 b=2 c=3 d=4")
}

// P17.5: a file of the second level that has too many bytes goes down, with what it meets; what is gone stays so above what is beneath.
func TestCompactDown(t *testing.T) {
	d := disk.New(1 << 16)
	wide := strings.Repeat("w", 300)
	x := edit.Edit{Next: 9, Seq: 20, Add: []edit.Meta{
		lays(t, d, 1, 4, set("a", 1), set("c", 2)),
		lays(t, d, 3, 2, set("b", 3), set("c", 4)),
		lays(t, d, 4, 2, set("d", 5), set("e", 6)),
		lays(t, d, 5, 1, key.Entry{Key: "a", Seq: 9, Del: true}, key.Entry{Key: "b", Seq: 8, Del: true}, key.Entry{Key: "bb", Seq: 7, Val: wide}),
		lays(t, d, 6, 1, set("c", 10), set("d", 11)),
	}}
	edited(t, d, x)
	s := opens(t, "laid", d)
	sees(t, "laid", s, key.MaxSeq, "bb="+wide+" c=10 d=11 e=6")
	compacts(t, s)
	// file.5 meets file.3; file.1 is beneath, so the changes by which keys are gone are kept.
	fileIs(t, d, "file.9", key.Entry{Key: "a", Seq: 9, Del: true}, key.Entry{Key: "b", Seq: 8, Del: true}, key.Entry{Key: "bb", Seq: 7, Val: wide})
	fileIs(t, d, "file.10", set("c", 4))
	v := s.Version()
	var nums []string
	for _, f := range v.Files {
		nums = append(nums, fmt.Sprint(f.Num, ":", f.Level))
	}
	if got := strings.Join(nums, " "); got != "1:4 4:2 6:1 9:2 10:2" || v.Next != 11 || v.Seq != 20 || v.Log != 1 {
		t.Error(got, v)
	}
	sees(t, "compacted", s, key.MaxSeq, "bb="+wide+" c=10 d=11 e=6")
	sees(t, "compacted", opens(t, "again", d), key.MaxSeq, "bb="+wide+" c=10 d=11 e=6")
}

// P17.5: with the power off; and pages that can't be read, of each file that is read.
func TestCompactErrors(t *testing.T) {
	d, s := two(t, 1<<16)
	d.Fuse(1)
	must(t, "the power goes", d.Create("x"), api.ErrDown)
	if did, e := s.Compact(); did || e != api.ErrDown {
		t.Error(did, e)
	}
	for _, name := range []string{"file.1", "file.2"} {
		d, s := two(t, 1<<16)
		must(t, "Spoil", d.Spoil(name, 20, 4), api.OK)
		holds(t, d, "file.3", "in the way")
		kept(t, name, s, d, api.ErrBad, func() api.Errno {
			did, e := s.Compact()
			if did {
				t.Error("Compact")
			}
			return e
		})
	}
	d = disk.New(99)
	s = opens(t, "new", d)
	d.Fuse(1)
	must(t, "the power goes", d.Create("x"), api.ErrDown)
	if did, e := s.Compact(); did || e != api.ErrDown {
		t.Error("down, and nothing to do", did, e)
	}
}

// two is a store with two files that are to be made others.
func two(t *testing.T, room int) (*disk.Disk, *Store) {
	t.Helper()
	d := disk.New(room)
	s := opens(t, "new", d)
	for _, words := range []string{"a=1 b=2 c=3", "b=4 d=5 e=6"} {
		puts(t, s, words)
		flushes(t, s)
	}
	return d, s
}

const twoWords = "a=1 b=4 c=3 d=5 e=6"

// P17.5: files in the way, of each number that is made, are removed first.
func TestCompactInTheWay(t *testing.T) {
	d, s := two(t, 1<<16)
	for n := 3; n < 9; n++ {
		holds(t, d, edit.FileName(n), "in the way")
	}
	compacts(t, s)
	if v := s.Version(); v.Next != 6 || len(v.Files) != 3 {
		t.Fatal(v)
	}
	fileIs(t, d, "file.3", set("a", 1), set("b", 4))
	fileIs(t, d, "file.4", set("c", 3), set("d", 5))
	fileIs(t, d, "file.5", set("e", 6))
	sees(t, "compacted", opens(t, "again", d), key.MaxSeq, twoWords)
	if b, _ := d.Read("file.6", 0, 99); string(b) != "in the way" {
		t.Errorf("%q", b)
	}
}

// P17.5: on a disk that fills up all is as it was, and no file is left; the room of files in the way is used.
func TestCompactFull(t *testing.T) {
	use, s := two(t, 1<<16)
	before := use.Used()
	compacts(t, s)
	after := use.Used()
	for _, way := range []int{0, 70} {
		counts := map[api.Errno]int{}
		for room := before + way; room < after+3; room++ {
			d, s := two(t, room)
			if way > 0 {
				holds(t, d, "file.5", strings.Repeat("w", way))
			}
			had, was := all(d), state(s)
			did, e := s.Compact()
			counts[e]++
			what := fmt.Sprint("room ", room, " way ", way)
			if did != (e == api.OK) || did != (room >= after) {
				t.Fatal(what, did, e)
			}
			if way > 0 {
				had = strings.Replace(had, fmt.Sprintf("file.5:%x:%d ", strings.Repeat("w", way), way), "", 1)
			}
			if !did && (all(d) != had || state(s) != was) {
				t.Fatalf("%s: %s, was %s; disk %s, was %s", what, state(s), was, all(d), had)
			}
			sees(t, what, s, key.MaxSeq, twoWords)
			sees(t, what, opens(t, what, d), key.MaxSeq, twoWords)
		}
		if counts[api.OK] != 3 || counts[api.ErrFull] < 100 || len(counts) != 2 {
			t.Error(counts)
		}
	}
}

// P17.5: an edit that makes too many files is refused, and none of them is left.
func TestCompactMany(t *testing.T) {
	d := disk.New(1 << 20)
	var x edit.Edit
	var list []key.Entry
	for i := range 30 {
		list = append(list, set(fmt.Sprintf("a%02d", i), 1))
	}
	x.Add = append(x.Add, lays(t, d, 1, 0, list...), lays(t, d, 2, 0, set("b", 2)))
	one := lays(t, d, 3, 5, set("z", 1))
	for n := 3; n <= edit.MostFiles; n++ {
		holds(t, d, edit.FileName(n), string(bytesOf(t, d, "file.3")))
		one.Num, one.Level = n, 0
		// Those of the last level must be apart; what their files have isn't looked at.
		one.Level, one.Low = 5, fmt.Sprintf("z%04d", n)
		one.High = one.Low
		x.Add = append(x.Add, one)
	}
	x.Next, x.Seq = edit.MostFiles+1, 2
	edited(t, d, x)
	s := opens(t, "most", d)
	kept(t, "too many", s, d, api.ErrMany, func() api.Errno {
		did, e := s.Compact()
		if did {
			t.Error("Compact")
		}
		return e
	})
}

// bytesOf is a file's bytes.
func bytesOf(t *testing.T, d *disk.Disk, name string) []byte {
	t.Helper()
	b, e := d.Read(name, 0, disk.MaxRoom)
	must(t, "Read", e, api.OK)
	return b
}

// P17.5: compacted as often as there is something to do, it ends, with levels that aren't too great.
func TestCompactAll(t *testing.T) {
	d := disk.New(1 << 20)
	s := opens(t, "new", d)
	for i := range 200 {
		puts(t, s, fmt.Sprintf("k%03d=%d k%03d=%d", i*7%100, i, i*31%100, i))
		flushes(t, s)
		if i%5 != 4 {
			continue
		}
		for did, rounds := true, 0; did; rounds++ {
			var e api.Errno
			if did, e = s.Compact(); e != api.OK || rounds > 100 {
				t.Fatal(e, rounds)
			}
		}
		v := s.Version()
		if _, more := level.Pick(v, little.Level); more || v.Check() != api.OK {
			t.Fatal(v)
		}
	}
	if v := s.Version(); len(v.Of(3)) == 0 {
		t.Error("few levels", v)
	}
}

// P17.6: the names that count, and that Clean removes all others.
func TestLiveAndClean(t *testing.T) {
	d := disk.New(1 << 16)
	s := opens(t, "new", d)
	for i, x := range []struct {
		do         func()
		live, disk string
	}{
		{func() {}, "", ""},
		{func() { puts(t, s, "a=1") }, "log.1", "log.1"},
		{func() { s = opens(t, "again", d) }, "log.1", "log.1"},
		{func() { puts(t, s, "a=2") }, "log.1 log.2", "log.1 log.2"},
		{func() { flushes(t, s) }, "file.1 log.3 man.1 now", "file.1 log.1 log.2 log.3 man.1 now"},
		{func() { puts(t, s, "b=3"); flushes(t, s) }, "file.1 file.2 log.4 man.1 now", "file.1 file.2 log.1 log.2 log.3 log.4 man.1 now"},
		{func() { compacts(t, s) }, "file.3 log.4 man.1 now", "file.1 file.2 file.3 log.1 log.2 log.3 log.4 man.1 now"},
		{func() { s = opens(t, "again", d); puts(t, s, "c=4"); flushes(t, s) }, "file.3 file.4 log.6 man.2 now", "file.1 file.2 file.3 file.4 log.1 log.2 log.3 log.4 log.5 log.6 man.1 man.2 now"},
	} {
		x.do()
		if got := strings.Join(s.Live(), " "); got != x.live || names(d) != x.disk {
			t.Errorf("%d: %q of %q, want %q of %q", i, got, names(d), x.live, x.disk)
		}
	}
	holds(t, d, "soon", "x")
	holds(t, d, "another", "y")
	holds(t, d, "log.7", "")
	if n, e := s.Clean(); n != 11 || e != api.OK || names(d) != "file.3 file.4 log.6 man.2 now" {
		t.Error(n, e, names(d))
	}
	if n, e := s.Clean(); n != 0 || e != api.OK {
		t.Error(n, e)
	}
	sees(t, "cleaned", s, key.MaxSeq, "a=2 b=3 c=4")
	sees(t, "cleaned", opens(t, "again", d), key.MaxSeq, "a=2 b=3 c=4")
}

// P17.6: ten parts and more of the log, and files, stand in the order of their names.
func TestLiveInOrder(t *testing.T) {
	d := disk.New(1 << 16)
	few := Conf{Level: level.Conf{Files: 100, Size: 1 << 20, Cut: 1}}
	s, e := Open(d, few)
	must(t, "Open", e, api.OK)
	for range 12 {
		puts(t, s, "a=1")
		flushes(t, s)
	}
	for range 12 {
		puts(t, s, "a=1")
		s = opens(t, "again", d)
	}
	live := s.Live()
	if len(live) != 12+12+2 || !slices.IsSorted(live) || live[1] != "file.10" || !slices.Contains(live, "log.24") || !slices.Contains(live, "log.13") || slices.Contains(live, "log.12") {
		t.Error(live)
	}
}

// P17.6: the power goes at each file that is removed.
func TestCleanDown(t *testing.T) {
	for fuse := 1; ; fuse++ {
		d, s := two(t, 1<<16)
		compacts(t, s)
		d.Fuse(fuse)
		n, e := s.Clean()
		if e == api.OK {
			if n != fuse-1 || n != 4 {
				t.Error(n, fuse)
			}
			break
		}
		if n != fuse-1 || e != api.ErrDown {
			t.Error(fuse, n, e)
		}
		if n, e := s.Clean(); n != 0 || e != api.ErrDown {
			t.Error("down", n, e)
		}
		d.Crash(nil)
		s = opens(t, "again", d)
		sees(t, "again", s, key.MaxSeq, twoWords)
		if n, e := s.Clean(); n < 4-fuse+1 || e != api.OK || len(d.List()) != len(s.Live()) {
			t.Error(fuse, n, e)
		}
	}
}
