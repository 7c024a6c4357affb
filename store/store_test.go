package store

import (
	"fmt"
	"math"
	"slices"
	"strings"
	"testing"

	"tailrace/api"
	"tailrace/disk"
	"tailrace/edit"
	"tailrace/file"
	"tailrace/key"
	"tailrace/level"
	"tailrace/num"
	"tailrace/record"
	"tailrace/wal"
)

// little is a conf by which much is to be done with few changes.
var little = Conf{Level: level.Conf{Files: 2, Size: 300, Cut: 4}}

// must tells whether a call answered the error that is wanted.
func must(t *testing.T, what string, got, want api.Errno) {
	t.Helper()
	if got != want {
		t.Fatalf("%s: %d, want %d", what, got, want)
	}
}

// opens is the store on a disk; Open turns nothing there.
func opens(t *testing.T, what string, d *disk.Disk) *Store {
	t.Helper()
	had := all(d)
	s, e := Open(d, little)
	must(t, what+": Open", e, api.OK)
	if all(d) != had {
		t.Fatalf("%s: Open turned the disk", what)
	}
	return s
}

// unopened tells whether Open answers an error, and nothing else; and turns nothing.
func unopened(t *testing.T, what string, d *disk.Disk, c Conf, want api.Errno) {
	t.Helper()
	had := all(d)
	s, e := Open(d, c)
	if s != nil || e != want || all(d) != had {
		t.Errorf("%s: %v %d, want %d", what, s != nil, e, want)
	}
}

// changes are written by words: a=1 is the key a with the value 1, and a- is a that is gone.
func changes(words string) []Change {
	var list []Change
	for _, w := range strings.Fields(words) {
		if name, ok := strings.CutSuffix(w, "-"); ok {
			list = append(list, Change{Key: name, Del: true})
			continue
		}
		name, val, _ := strings.Cut(w, "=")
		list = append(list, Change{Key: name, Val: val})
	}
	return list
}

// shown is changes by the same words.
func shown(list []Change) string {
	var words []string
	for _, x := range list {
		if x.Del {
			words = append(words, x.Key+"-")
		} else {
			words = append(words, x.Key+"="+x.Val)
		}
	}
	return strings.Join(words, " ")
}

// puts puts changes, which must be taken.
func puts(t *testing.T, s *Store, words ...string) {
	t.Helper()
	for _, w := range words {
		must(t, "Put "+w, s.Put(changes(w)), api.OK)
	}
}

// flushes flushes, which must be done.
func flushes(t *testing.T, s *Store) {
	t.Helper()
	must(t, "Flush", s.Flush(), api.OK)
}

// compacts compacts, which must be done.
func compacts(t *testing.T, s *Store) {
	t.Helper()
	did, e := s.Compact()
	if !did || e != api.OK {
		t.Fatal("Compact", did, e)
	}
}

// seen is all that a store tells by a number.
func seen(t *testing.T, s *Store, seq uint64) string {
	t.Helper()
	list, e := s.Scan("", "", seq, math.MaxInt)
	must(t, "Scan", e, api.OK)
	return shown(list)
}

// sees tells whether a store tells just these keys by a number, one by one, too.
func sees(t *testing.T, what string, s *Store, seq uint64, want string) {
	t.Helper()
	if got := seen(t, s, seq); got != want {
		t.Errorf("%s: by %d: %q, want %q", what, seq, got, want)
	}
	for _, x := range changes(want) {
		if v, ok, e := s.Get(x.Key, seq); v != x.Val || !ok || e != api.OK {
			t.Errorf("%s: by %d: %s is %q %v %d, want %q", what, seq, x.Key, v, ok, e, x.Val)
		}
	}
}

// all is the files of a disk, whether its power is on or off, their bytes, and how many of these are sure.
func all(d *disk.Disk) string {
	if d == nil {
		return ""
	}
	s := ""
	whole, sure := d.Clone(), d.Clone()
	if d.Down() {
		whole.Crash(slices.Repeat([]int{disk.MaxRoom}, 2000))
	}
	sure.Crash(nil)
	for _, name := range whole.List() {
		b, _ := whole.Read(name, 0, disk.MaxRoom)
		n, _ := sure.Size(name)
		s += fmt.Sprintf("%s:%x:%d ", name, b, n)
	}
	return s
}

// holds lays a file that is sure, in the place of one of its name.
func holds(t *testing.T, d *disk.Disk, name, text string) {
	t.Helper()
	d.Remove(name)
	must(t, "Create", d.Create(name), api.OK)
	must(t, "Append", d.Append(name, []byte(text)), api.OK)
	must(t, "Sync", d.Sync(name), api.OK)
}

// rec is the record of some bytes.
func rec(data string) string {
	b, e := record.Put(nil, []byte(data))
	if e != api.OK {
		panic("a record that is too long")
	}
	return string(b)
}

// text is a text of the log: how many changes it has, and those.
func text(n int, list ...key.Entry) string {
	b := num.Put(nil, uint64(n))
	for _, x := range list {
		b = x.Put(b)
	}
	return string(b)
}

// logs lays a part of the log with these texts.
func logs(t *testing.T, d *disk.Disk, part int, texts ...string) {
	t.Helper()
	s := rec("\x00")
	for _, x := range texts {
		s += rec(x)
	}
	holds(t, d, wal.Name(part), s)
}

// edited lays an edit on a disk.
func edited(t *testing.T, d *disk.Disk, x edit.Edit) {
	t.Helper()
	m, e := edit.Load(d)
	must(t, "Load", e, api.OK)
	must(t, "Do", m.Do(x), api.OK)
}

// lays lays a file of changes on a disk, and what tells of it.
func lays(t *testing.T, d *disk.Disk, n, level int, list ...key.Entry) edit.Meta {
	t.Helper()
	size, e := file.Write(d, edit.FileName(n), list)
	must(t, "Write", e, api.OK)
	return edit.Meta{Num: n, Level: level, Low: list[0].Key, High: list[len(list)-1].Key, Size: size}
}

// set is a change of a key to its own number.
func set(name string, seq uint64) key.Entry {
	return key.Entry{Key: name, Seq: seq, Val: fmt.Sprint(seq)}
}

// P17.1: the conf that does.
func TestDefault(t *testing.T) {
	if c := Default(); c != (Conf{Level: level.Conf{Files: 4, Size: 65536, Cut: 8192}}) || c.Level.Check() != api.OK {
		t.Error(c)
	}
}

// P17.1: a new disk has no changes, and nothing is made there.
func TestOpenNew(t *testing.T) {
	d := disk.New(1000)
	s := opens(t, "new", d)
	v, e := s.Version(), s.Sync()
	if s.Seq() != 0 || s.Size() != 0 || v.Log != 1 || v.Next != 1 || v.Seq != 0 || len(v.Files) != 0 || len(s.Live()) != 0 || e != api.OK || len(d.List()) != 0 {
		t.Error(s.Seq(), s.Size(), v, s.Live(), e)
	}
	sees(t, "new", s, key.MaxSeq, "")
	if e := opens(t, "no room", disk.New(0)).Put(changes("a=1")); e != api.ErrFull {
		t.Error("no room", e)
	}
}

// filled is a disk with files of two levels, and changes in two parts of the log.
func filled(t *testing.T) *disk.Disk {
	t.Helper()
	d := disk.New(1 << 16)
	s := opens(t, "filled", d)
	puts(t, s, "a=1 b=2", "c=3")
	flushes(t, s)
	puts(t, s, "b=4 d=5")
	flushes(t, s)
	compacts(t, s)
	puts(t, s, "e=6", "a-")
	flushes(t, s)
	puts(t, s, "f=8")
	s = opens(t, "filled", d)
	puts(t, s, "c-", "b=10")
	must(t, "Sync", s.Sync(), api.OK)
	if _, e := s.Clean(); e != api.OK {
		t.Fatal("Clean", e)
	}
	return d
}

// what filled's store tells.
const filledWords = "b=10 d=5 e=6 f=8"

// P17.1: what was put is there again: of files, and of all parts of the log.
func TestOpenFilled(t *testing.T) {
	d := filled(t)
	s := opens(t, "filled", d)
	sees(t, "filled", s, key.MaxSeq, filledWords)
	if s.Seq() != 10 || s.Version().Seq != 7 || s.Size() != 3*16+3+3 {
		t.Error(s.Seq(), s.Version(), s.Size())
	}
	if got := strings.Join(d.List(), " "); got != "file.3 file.4 file.5 log.4 log.5 man.1 now" {
		t.Error(got)
	}
}

// P17.1: the errors of Open, and which of several is told.
func TestOpenErrors(t *testing.T) {
	wrong := Conf{Level: level.Conf{Files: 0, Size: 1, Cut: 1}}
	d := filled(t)
	unopened(t, "no disk", nil, little, api.ErrArg)
	unopened(t, "a wrong conf", d, wrong, api.ErrArg)
	unopened(t, "Files", d, Conf{Level: level.Conf{Files: 101, Size: 1, Cut: 1}}, api.ErrArg)
	unopened(t, "Size", d, Conf{Level: level.Conf{Files: 1, Size: 1<<26 + 1, Cut: 1}}, api.ErrArg)
	unopened(t, "Cut", d, Conf{Level: level.Conf{Files: 1, Size: 1, Cut: 1<<20 + 1}}, api.ErrArg)
	unopened(t, "the zero conf", d, Conf{}, api.ErrArg)
	down := filled(t)
	down.Fuse(1)
	must(t, "the power goes", down.Create("x"), api.ErrDown)
	unopened(t, "down", down, little, api.ErrDown)
	unopened(t, "down, and a wrong conf", down, wrong, api.ErrArg)
	empty := disk.New(9)
	empty.Fuse(1)
	must(t, "the power goes", empty.Create("x"), api.ErrDown)
	unopened(t, "down, and new", empty, little, api.ErrDown)
	for _, name := range []string{"file.3", "file.5", "man.1"} {
		d := filled(t)
		must(t, "Remove", d.Remove(name), api.OK)
		unopened(t, "without "+name, d, little, api.ErrBad)
	}
	for _, name := range d.List() {
		d := filled(t)
		must(t, "Spoil", d.Spoil(name, 0, 1), api.OK)
		unopened(t, "with a turned byte in "+name, d, little, api.ErrBad)
	}
	d = filled(t)
	must(t, "Remove", d.Remove("log.4"), api.OK)
	// The log begins behind it then, which isn't asked for: there is no such part.
	sees(t, "without log.4", opens(t, "without log.4", d), key.MaxSeq, "b=4 c=3 d=5 e=6")
}

// P17.1, P17.2: texts of the log that aren't such as Put lays, or not behind all ahead.
func TestOpenTexts(t *testing.T) {
	a, b := set("a", 1), set("b", 2)
	both := text(2, a, b)
	long := set("x", 9)
	long.Key = strings.Repeat("x", api.MaxKey+1)
	for _, x := range []struct {
		what  string
		texts []string
		want  string // what is told, or bad
	}{
		{"two changes", []string{both}, "a=1 b=2"},
		{"two texts", []string{text(1, a), text(1, b)}, "a=1 b=2"},
		{"keys in any order", []string{text(2, set("b", 1), set("a", 2))}, "a=2 b=1"},
		{"one key twice", []string{text(2, set("a", 1), set("a", 2))}, "a=2"},
		{"a key that goes", []string{both, text(1, key.Entry{Key: "a", Seq: 3, Del: true})}, "b=2"},
		{"a number that is not the next one", []string{text(1, a), text(1, set("b", 7))}, "a=1 b=7"},
		{"the greatest number", []string{text(1, set("a", key.MaxSeq))}, fmt.Sprint("a=", key.MaxSeq)},
		{"nothing", []string{""}, "bad"},
		{"no changes", []string{text(0)}, "bad"},
		{"a change beside none", []string{text(0, a)}, "bad"},
		{"one is told, and two are there", []string{text(1, a, b)}, "bad"},
		{"two are told, and one is there", []string{text(2, a)}, "bad"},
		{"bytes behind the last", []string{both + "\x00"}, "bad"},
		{"the last is cut", []string{both[:len(both)-1]}, "bad"},
		{"the count is laid long", []string{"\x82\x00" + both[1:]}, "bad"},
		{"the count is cut", []string{"\x82"}, "bad"},
		{"the count is great", []string{"\xff\xff\xff\xff\xff\xff\xff\xff\xff\x01" + both[1:]}, "bad"},
		{"numbers fall", []string{text(2, b, set("a", 1))}, "bad"},
		{"numbers are alike", []string{text(2, a, set("b", 1))}, "bad"},
		{"a change twice", []string{text(2, a, a)}, "bad"},
		{"a number is left out", []string{text(2, a, set("b", 3))}, "bad"},
		{"the number 0", []string{text(1, set("a", 0))}, "bad"},
		{"a number that isn't above the last", []string{both, text(1, set("c", 2))}, "bad"},
		{"a number that is below it", []string{both, text(1, set("c", 1))}, "bad"},
		{"a text twice", []string{text(1, a), text(1, a)}, "bad"},
		{"a key that is too long", []string{text(1, long)}, "bad"},
		{"no key", []string{text(1, key.Entry{Seq: 1})}, "bad"},
		{"a number that is too great", []string{text(1, set("a", key.MaxSeq+1))}, "bad"},
		{"a good one behind a bad one", []string{"", both}, "bad"},
	} {
		d := disk.New(1 << 16)
		logs(t, d, 1, x.texts...)
		if x.want == "bad" {
			unopened(t, x.what, d, little, api.ErrBad)
			continue
		}
		sees(t, x.what, opens(t, x.what, d), key.MaxSeq, x.want)
	}
}

// P17.1: the log counts from the version's part on, and its numbers stand behind the version's.
func TestOpenBehindFiles(t *testing.T) {
	for _, x := range []struct {
		seq uint64
		bad bool
	}{{1, true}, {9, true}, {10, false}, {11, false}} {
		d := disk.New(1 << 16)
		edited(t, d, edit.Edit{Log: 3, Next: 2, Seq: 9, Add: []edit.Meta{lays(t, d, 1, 0, set("a", 9), set("a", 4))}})
		logs(t, d, 2, "not a text")
		logs(t, d, 3, text(1, set("b", x.seq)))
		if x.bad {
			unopened(t, fmt.Sprint(x.seq), d, little, api.ErrBad)
			continue
		}
		s := opens(t, fmt.Sprint(x.seq), d)
		sees(t, fmt.Sprint(x.seq), s, key.MaxSeq, fmt.Sprint("a=9 b=", x.seq))
		if s.Seq() != x.seq {
			t.Error(s.Seq(), x.seq)
		}
	}
}

// P17.1: a text with as many changes as there may be, and one more.
func TestOpenMost(t *testing.T) {
	var list []key.Entry
	for i := range api.MaxBatch + 1 {
		list = append(list, key.Entry{Key: fmt.Sprintf("%04d", i), Seq: uint64(i + 1)})
	}
	d := disk.New(1 << 20)
	logs(t, d, 1, text(api.MaxBatch, list[:api.MaxBatch]...))
	if s := opens(t, "most", d); s.Seq() != api.MaxBatch {
		t.Error(s.Seq())
	}
	logs(t, d, 1, text(api.MaxBatch+1, list...))
	unopened(t, "one more", d, little, api.ErrBad)
}

// P17.1: a nil Store, and one that Open didn't make, do nothing.
func TestNil(t *testing.T) {
	for _, s := range []*Store{nil, {}} {
		must(t, "Put", s.Put(changes("a=1")), api.ErrArg)
		must(t, "Sync", s.Sync(), api.ErrArg)
		must(t, "Flush", s.Flush(), api.ErrArg)
		if v, ok, e := s.Get("a", 1); v != "" || ok || e != api.ErrArg {
			t.Error("Get", v, ok, e)
		}
		if v, ok, e := s.Now("a"); v != "" || ok || e != api.ErrArg {
			t.Error("Now", v, ok, e)
		}
		if list, e := s.Scan("", "", 1, 1); len(list) != 0 || e != api.ErrArg {
			t.Error("Scan", list, e)
		}
		if list, e := s.Prefix("", 1); len(list) != 0 || e != api.ErrArg {
			t.Error("Prefix", list, e)
		}
		if did, e := s.Compact(); did || e != api.ErrArg {
			t.Error("Compact", did, e)
		}
		if n, e := s.Clean(); n != 0 || e != api.ErrArg {
			t.Error("Clean", n, e)
		}
		v := s.Version()
		if s.Seq() != 0 || s.Snap() != 0 || s.Free(0) || len(s.Live()) != 0 || s.Size() != 0 || v.Log != 0 || v.Next != 0 || v.Seq != 0 || len(v.Files) != 0 {
			t.Error(s.Seq(), s.Live(), s.Size(), v)
		}
	}
}

// P17.6: a version that is handed out is the caller's.
func TestShares(t *testing.T) {
	s := opens(t, "shares", filled(t))
	v, live := s.Version(), s.Live()
	for i := range v.Files {
		v.Files[i] = edit.Meta{}
	}
	clear(live)
	sees(t, "shares", s, key.MaxSeq, filledWords)
	if s.Version().Files[0].Num != 3 || s.Live()[0] != "file.3" {
		t.Error(s.Version(), s.Live())
	}
}
