package store

import (
	"fmt"
	"maps"
	"slices"
	"strings"
	"testing"

	"tailrace/api"
	"tailrace/disk"
	"tailrace/key"
	"tailrace/level"
)

// dice is numbers with no pattern to speak of, the same ones in each run.
type dice uint64

func (d *dice) roll(n int) int {
	*d = *d*6364136223846793005 + 1442695040888963407
	return int((uint64(*d) >> 33) % uint64(n))
}

// model is all changes that there were, plainly: the i-th has the number i + 1.
type model []Change

// at is what a store tells by a number.
func (m model) at(seq uint64) map[string]string {
	is := map[string]string{}
	for _, x := range m[:min(seq, uint64(len(m)))] {
		if x.Del {
			delete(is, x.Key)
		} else {
			is[x.Key] = x.Val
		}
	}
	return is
}

// scan is what Scan answers of it.
func scan(is map[string]string, from, to string, most int) string {
	var list []Change
	for _, name := range slices.Sorted(maps.Keys(is)) {
		if name >= from && (to == "" || name < to) && len(list) < most {
			list = append(list, Change{Key: name, Val: is[name]})
		}
	}
	return shown(list)
}

// walker is who uses a store, and notes what must be there.
type walker struct {
	d     *disk.Disk
	s     *Store
	conf  Conf
	all   model
	ends  []int // how many changes there were behind each Put, and at the beginning
	sure  int   // how many of all must be there behind a crash
	snaps map[uint64]int
	r     dice
}

func newWalker(t *testing.T, room int, c Conf, seed int) *walker {
	t.Helper()
	w := &walker{d: disk.New(room), conf: c, ends: []int{0}, r: dice(seed)}
	w.open(t, "new")
	return w
}

// open opens the store, which has no Snaps then.
func (w *walker) open(t *testing.T, what string) {
	t.Helper()
	s, e := Open(w.d, w.conf)
	must(t, what+": Open", e, api.OK)
	w.s, w.snaps = s, map[uint64]int{}
}

// name is some key.
func (w *walker) name() string {
	return []string{"a", "a\x00", "aa", "b", "ba", "c", "d\xff", "d\xff\xff", "e", "f"}[w.r.roll(10)] + []string{"", "", "x", "\x00"}[w.r.roll(4)]
}

// put puts some changes.
func (w *walker) put() api.Errno {
	var list []Change
	for range 1 + w.r.roll(4) {
		x := Change{Key: w.name(), Del: w.r.roll(4) == 0}
		if !x.Del {
			x.Val = strings.Repeat("v", w.r.roll(3)*w.r.roll(30)) + fmt.Sprint(len(w.all))
		}
		list = append(list, x)
	}
	return w.puts(list)
}

func (w *walker) puts(list []Change) api.Errno {
	e := w.s.Put(list)
	if e == api.OK {
		w.all = append(w.all, list...)
		w.ends = append(w.ends, len(w.all))
	}
	return e
}

// sync syncs, and flush flushes: all that was there must be there behind a crash, if it had no error.
func (w *walker) sync() api.Errno {
	return w.sured(w.s.Sync())
}

func (w *walker) flush() api.Errno {
	return w.sured(w.s.Flush())
}

func (w *walker) sured(e api.Errno) api.Errno {
	if e == api.OK {
		w.sure = len(w.all)
	}
	return e
}

// snap asks for the newest number, and free lets some number go.
func (w *walker) snap(t *testing.T) {
	t.Helper()
	n := w.s.Snap()
	if n != uint64(len(w.all)) {
		t.Fatal("Snap", n, len(w.all))
	}
	w.snaps[n]++
}

func (w *walker) free(t *testing.T) {
	t.Helper()
	n := uint64(w.r.roll(len(w.all) + 2))
	if held := slices.Sorted(maps.Keys(w.snaps)); len(held) > 0 && w.r.roll(3) > 0 {
		n = held[w.r.roll(len(held))]
	}
	if w.s.Free(n) != (w.snaps[n] > 0) {
		t.Fatal("Free", n, w.snaps[n])
	}
	w.snaps[n]--
	if w.snaps[n] <= 0 {
		delete(w.snaps, n)
	}
}

// clean cleans; the disk has just the files that count then.
func (w *walker) clean(t *testing.T) api.Errno {
	t.Helper()
	had := len(w.d.List())
	n, e := w.s.Clean()
	if e == api.OK && (n != had-len(w.d.List()) || !slices.Equal(w.d.List(), w.s.Live())) {
		t.Fatal("Clean", n, had, w.d.List(), w.s.Live())
	}
	return e
}

// crash lets the power go and come again: what is opened is what a beginning of all Puts made, with all that is sure.
func (w *walker) crash(t *testing.T, what string, keep []int) {
	t.Helper()
	w.d.Crash(keep)
	w.open(t, what)
	n := int(w.s.Seq())
	if n < w.sure || !slices.Contains(w.ends, n) {
		t.Fatalf("%s: %d changes, of %v; %d are sure", what, n, w.ends, w.sure)
	}
	w.all, w.sure = w.all[:n], n
	w.ends = w.ends[:slices.Index(w.ends, n)+1]
	w.agrees(t, what)
}

// agrees holds the store against the model: by the newest number, and by each that is held.
func (w *walker) agrees(t *testing.T, what string) {
	t.Helper()
	for _, seq := range append(slices.Sorted(maps.Keys(w.snaps)), uint64(len(w.all)), key.MaxSeq) {
		is := w.all.at(seq)
		if got := seen(t, w.s, seq); got != scan(is, "", "", 999) {
			t.Fatalf("%s: by %d: %q, want %q", what, seq, got, scan(is, "", "", 999))
		}
		from, to, most := w.name(), w.name(), w.r.roll(9)
		list, e := w.s.Scan(from, to, seq, most)
		if want := scan(is, from, to, most); shown(list) != want || e != api.OK {
			t.Fatalf("%s: by %d from %q to %q, %d: %q %d, want %q", what, seq, from, to, most, shown(list), e, want)
		}
		for range 5 {
			name := w.name()
			v, ok, e := w.s.Get(name, seq)
			if want, has := is[name]; v != want || ok != has || e != api.OK {
				t.Fatalf("%s: by %d: %q is %q %v %d, want %q %v", what, seq, name, v, ok, e, want, has)
			}
		}
	}
	if w.s.Seq() != uint64(len(w.all)) || w.s.Version().Check() != api.OK {
		t.Fatal(what, w.s.Seq(), len(w.all), w.s.Version())
	}
}

// step is some call; an error that isn't of the power has turned nothing.
func (w *walker) step(t *testing.T, what string) api.Errno {
	t.Helper()
	had, was := others(w.d), state(w.s)
	e := api.OK
	switch k := w.r.roll(14); {
	case k < 6:
		had = all(w.d)
		if e = w.put(); e == api.ErrFull && (all(w.d) != had || state(w.s) != was) {
			t.Fatalf("%s: Put: %s, was %s; disk %s, was %s", what, state(w.s), was, all(w.d), had)
		}
		return e
	case k == 6:
		return w.sync()
	case k < 9:
		e = w.flush()
	case k < 11:
		_, e = w.s.Compact()
	case k == 11:
		return w.clean(t)
	case k == 12:
		w.snap(t)
	default:
		w.free(t)
	}
	// The power may go as what came to nothing is removed, too.
	if e != api.OK && !w.d.Down() {
		w.unturned(t, what, had)
	}
	return e
}

// unturned tells whether the disk has no other files than it had, but for the log's, and for those that were in the way.
func (w *walker) unturned(t *testing.T, what, had string) {
	t.Helper()
	for _, x := range strings.Fields(others(w.d)) {
		if !strings.Contains(had, x+" ") {
			t.Fatalf("%s: %s is there", what, x)
		}
	}
	for _, name := range w.s.Live() {
		if _, e := w.d.Size(name); e != api.OK {
			t.Fatalf("%s: %s isn't there", what, name)
		}
	}
}

// P17.3 to P17.7, P1: many calls in many orders, with no crash, on disks with room and without: all that is told is as the model has it.
func TestWalk(t *testing.T) {
	count := map[api.Errno]int{}
	for seed := range 60 {
		c := Conf{Level: level.Conf{Files: 1 + seed%4, Size: 100 + seed*50, Cut: 1 + seed*seed}}
		w := newWalker(t, []int{1 << 20, 400, 1500, 4000}[seed%4], c, seed)
		for i := range 150 {
			what := fmt.Sprint("seed ", seed, " step ", i)
			count[w.step(t, what)]++
			w.agrees(t, what)
			if w.r.roll(20) == 0 {
				w.open(t, what)
				w.agrees(t, what+" opened again")
			}
		}
	}
	if count[api.OK] < 5000 || count[api.ErrFull] < 500 || len(count) != 2 {
		t.Error(count)
	}
}

// P17.7, P2: the same with crashes at any step of any call.
func TestCrashWalk(t *testing.T) {
	count := map[api.Errno]int{}
	for seed := range 150 {
		c := Conf{Level: level.Conf{Files: 1 + seed%3, Size: 100 + seed*10, Cut: 1 + seed}}
		w := newWalker(t, []int{1 << 20, 1 << 20, 900, 4000}[seed%4], c, seed)
		for i := range 120 {
			what := fmt.Sprint("seed ", seed, " step ", i)
			switch k := w.r.roll(12); {
			case k < 2 && !w.d.Down():
				w.d.Fuse(1 + w.r.roll(14))
			case k == 2 || w.d.Down():
				w.crash(t, what, []int{w.r.roll(200), w.r.roll(100), w.r.roll(30)})
			default:
				count[w.step(t, what)]++
			}
		}
		w.crash(t, fmt.Sprint("seed ", seed), nil)
	}
	if count[api.OK] < 5000 || count[api.ErrFull] < 300 || count[api.ErrDown] < 500 || len(count) != 3 {
		t.Error(count)
	}
}

// P17.7: the power goes at each step of a script, and each number of bytes stays; then it goes on, and the power goes again.
func TestCrashAtEachStep(t *testing.T) {
	c := Conf{Level: level.Conf{Files: 2, Size: 60, Cut: 10}}
	for fuse, done := 1, false; !done; fuse++ {
		for keep := range 45 {
			what := fmt.Sprint("fuse ", fuse, " keep ", keep)
			w := newWalker(t, 1<<16, c, fuse)
			w.d.Fuse(fuse)
			done = w.runs(t, "pspfppfcClspfcfCl") == api.OK
			w.crash(t, what, []int{keep, keep * 7})
			w.d.Fuse(5 + keep)
			w.runs(t, "pfpfcCcCl")
			w.crash(t, what+" again", []int{keep})
			must(t, what+": gone on", w.runs(t, "psfcCl"), api.OK)
			w.agrees(t, what)
			w.crash(t, what+" once more", nil)
			if len(w.all) < 1 {
				t.Fatal(what)
			}
		}
	}
}

// runs does the calls of a script, up to one that has an error.
func (w *walker) runs(t *testing.T, script string) api.Errno {
	t.Helper()
	for _, k := range script {
		var e api.Errno
		switch k {
		case 'p':
			e = w.put()
		case 's':
			e = w.sync()
		case 'f':
			e = w.flush()
		case 'c', 'C':
			_, e = w.s.Compact()
		case 'l':
			e = w.clean(t)
		}
		if e != api.OK {
			return e
		}
	}
	return api.OK
}

// P17.7: what was only put may be gone; what a Flush without an error saw is not, though the log's new part be.
func TestCrashBehindFlush(t *testing.T) {
	for keep := range 40 {
		d := disk.New(1 << 16)
		s := opens(t, "new", d)
		puts(t, s, "a=1", "b=2")
		flushes(t, s)
		puts(t, s, "c=3")
		d.Crash([]int{keep})
		s = opens(t, "again", d)
		want := "a=1 b=2"
		if keep >= size(t, d, "log.2") && s.Seq() == 3 {
			want += " c=3"
		}
		sees(t, fmt.Sprint("keep ", keep), s, key.MaxSeq, want)
		puts(t, s, "d=4")
		sees(t, fmt.Sprint("keep ", keep), opens(t, "on", d), key.MaxSeq, want+" d=4")
	}
}

// P5, P17.1: with a byte turned anywhere on the disk each answer is ErrBad, or as it would be without: of who opened it ahead, and of who opens it then.
func TestTurned(t *testing.T) {
	d := filled(t)
	told := 0
	for _, name := range d.List() {
		for at := range size(t, d, name) {
			for _, bits := range []byte{1, 128, 255} {
				what := fmt.Sprint(name, " at ", at, " by ", bits)
				x := d.Clone()
				s := opens(t, what, x)
				must(t, what, x.Spoil(name, at, bits), api.OK)
				told += turned(t, what+", opened ahead", s)
				_, e := Open(x.Clone(), little)
				must(t, what, orBad(e, &told), api.OK)
				// What is made others, and flushed, is so of what is right alone.
				_, e = s.Compact()
				must(t, what+": Compact", orBad(e, &told), api.OK)
				must(t, what+": Flush", orBad(s.Flush(), &told), api.OK)
				told += turned(t, what+", made others", s)
				if s, e := Open(x, little); orBad(e, &told) == api.OK && e == api.OK {
					told += turned(t, what+", opened behind", s)
				}
			}
		}
	}
	if told < 1000 {
		t.Error(told)
	}
}

// orBad is OK for ErrBad, too, which it counts.
func orBad(e api.Errno, told *int) api.Errno {
	if e != api.ErrBad {
		return e
	}
	*told++
	return api.OK
}

// turned holds each answer of a store on filled's disk, of which a byte is turned, against what it would be without; how many are ErrBad.
func turned(t *testing.T, what string, s *Store) int {
	t.Helper()
	bad := 0
	list, e := s.Scan("", "", key.MaxSeq, 99)
	if e == api.ErrBad {
		bad++
	} else if shown(list) != filledWords || e != api.OK {
		t.Fatalf("%s: %q %d", what, shown(list), e)
	}
	is := map[string]string{}
	for _, x := range changes(filledWords) {
		is[x.Key] = x.Val
	}
	for _, name := range []string{"a", "b", "c", "d", "e", "f", "g"} {
		v, ok, e := s.Now(name)
		if e == api.ErrBad {
			bad++
			continue
		}
		if want, has := is[name]; v != want || ok != has || e != api.OK {
			t.Fatalf("%s: %s is %q %v %d, want %q", what, name, v, ok, e, want)
		}
	}
	return bad
}
