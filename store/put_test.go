package store

import (
	"fmt"
	"strings"
	"testing"

	"tailrace/api"
	"tailrace/disk"
	"tailrace/edit"
	"tailrace/key"
	"tailrace/record"
	"tailrace/wal"
)

// P17.2: the bytes of the log, written out.
func TestPutBytes(t *testing.T) {
	d := disk.New(1000)
	s := opens(t, "new", d)
	must(t, "Put", s.Put([]Change{{Key: "a", Val: "xy"}, {Key: "b\x00", Del: true}}), api.OK)
	must(t, "Put", s.Put([]Change{{Key: "a", Val: ""}}), api.OK)
	first := "\x02" +
		"\x0ba\x00\x01\xff\xff\xff\xff\xff\xff\xff\xfc" + "\x02xy" +
		"\x0db\x00\xff\x00\x01\xff\xff\xff\xff\xff\xff\xff\xfb" + "\x00"
	second := "\x01" + "\x0ba\x00\x01\xff\xff\xff\xff\xff\xff\xff\xf8" + "\x00"
	b, e := d.Read("log.1", 0, 1000)
	if want := rec("\x00") + rec(first) + rec(second); string(b) != want || e != api.OK {
		t.Errorf("%q %d, want %q", b, e, want)
	}
	if s.Seq() != 3 || s.Size() != 3*16+1+2+2+1 || strings.Join(d.List(), " ") != "log.1" {
		t.Error(s.Seq(), s.Size(), d.List())
	}
	sees(t, "put", s, key.MaxSeq, "a=")
	sees(t, "put", s, 1, "a=xy")
}

// refused tells whether a Put answers an error, and nothing is other than it was.
func refused(t *testing.T, what string, s *Store, d *disk.Disk, list []Change, want api.Errno) {
	t.Helper()
	had, seq, size, live := all(d), s.Seq(), s.Size(), fmt.Sprint(s.Live())
	must(t, what, s.Put(list), want)
	if all(d) != had || s.Seq() != seq || s.Size() != size || fmt.Sprint(s.Live()) != live {
		t.Errorf("%s: %q was %q; Seq %d was %d, Size %d was %d, %v was %s", what, all(d), had, s.Seq(), seq, s.Size(), size, s.Live(), live)
	}
}

// P17.2: what is refused, and which of several errors is told; on a store whose log can't be written to yet, and on one whose can.
func TestPutErrors(t *testing.T) {
	right := Change{Key: "a", Val: "1"}
	longKey := Change{Key: strings.Repeat("k", api.MaxKey+1)}
	longVal := Change{Key: "a", Val: strings.Repeat("v", api.MaxVal+1)}
	gone := Change{Key: "a", Del: true, Val: "1"}
	var many []Change
	for range api.MaxBatch + 1 {
		many = append(many, Change{})
	}
	great := Change{Key: "a", Val: strings.Repeat("v", api.MaxVal)}
	var text []Change
	for range 17 {
		text = append(text, great)
	}
	d := disk.New(1 << 22)
	s := opens(t, "new", d)
	for range 2 {
		for _, x := range []struct {
			what string
			list []Change
			want api.Errno
		}{
			{"nothing", nil, api.ErrArg},
			{"an empty list", []Change{}, api.ErrArg},
			{"no key", []Change{{Val: "1"}}, api.ErrArg},
			{"a value of what is gone", []Change{gone}, api.ErrArg},
			{"a long key", []Change{longKey}, api.ErrLong},
			{"a long value", []Change{longVal}, api.ErrLong},
			{"a wrong one behind a right one", []Change{right, {}}, api.ErrArg},
			{"a wrong one ahead of a long one", []Change{right, gone, longKey}, api.ErrArg},
			{"a long one ahead of a wrong one", []Change{right, longVal, gone}, api.ErrLong},
			{"too many, and wrong", many, api.ErrMany},
			{"a long text", text, api.ErrLong},
			{"a long text, and a wrong one behind", append(text[:17:17], Change{}), api.ErrLong},
			{"a wrong one, and a long text behind", append([]Change{{}}, text...), api.ErrArg},
			{"a wrong one ahead of the text's end", append(text[:15:15], Change{}, great, great), api.ErrArg},
		} {
			refused(t, x.what, s, d, x.list, x.want)
		}
		puts(t, s, "a=1")
	}
}

// P17.2: as many changes as there may be; each has its own number, in the order of the list.
func TestPutMany(t *testing.T) {
	var list []Change
	for i := range api.MaxBatch {
		list = append(list, Change{Key: fmt.Sprint("k", i%1000), Val: fmt.Sprint(i)})
	}
	d := disk.New(1 << 20)
	s := opens(t, "new", d)
	must(t, "Put", s.Put(list), api.OK)
	if s.Seq() != api.MaxBatch {
		t.Error(s.Seq())
	}
	for _, s := range []*Store{s, opens(t, "again", d)} {
		for i := range list {
			if v, ok, e := s.Get(list[i].Key, uint64(i+1)); v != list[i].Val || !ok || e != api.OK {
				t.Fatal(i, v, ok, e)
			}
		}
		if v, _, _ := s.Now("k95"); v != "4095" {
			t.Error(v)
		}
		if v, _, _ := s.Now("k96"); v != "3096" {
			t.Error(v)
		}
	}
}

// P17.2: the text may have just as many bytes as a record.
func TestPutLong(t *testing.T) {
	var list []Change
	size := 1
	add := func(n int) {
		x := key.Entry{Key: fmt.Sprint("k", len(list)), Val: strings.Repeat("v", n)}
		list = append(list, Change{Key: x.Key, Val: x.Val})
		size += len(x.Put(nil))
	}
	for range 15 {
		add(api.MaxVal)
	}
	// What is left is the last value's, but for its Inner of 13 bytes, and the lengths, of 1 and 3 bytes.
	rest := record.Most - size - 13 - 4
	add(rest)
	if size != record.Most {
		t.Fatal("the test's own sum", size)
	}
	d := disk.New(1 << 22)
	s := opens(t, "new", d)
	must(t, "Put", s.Put(list), api.OK)
	sees(t, "most", opens(t, "most", d), 0, "")
	if s.Seq() != 16 || opens(t, "again", d).Seq() != 16 {
		t.Error(s.Seq())
	}
	list[15].Val += "v"
	refused(t, "one more", s, d, list, api.ErrLong)
	// The log is begun by no text that is refused.
	d = disk.New(1 << 22)
	refused(t, "one more, on a new disk", opens(t, "new", d), d, list, api.ErrLong)
}

// P17.2: numbers end at the greatest one.
func TestPutLastNumbers(t *testing.T) {
	d := disk.New(1 << 16)
	edited(t, d, edit.Edit{Seq: key.MaxSeq - 2})
	s := opens(t, "near the end", d)
	refused(t, "three", s, d, changes("a=1 b=2 c=3"), api.ErrMany)
	refused(t, "three, and wrong", s, d, make([]Change, 3), api.ErrMany)
	puts(t, s, "a=1 b=2")
	if s.Seq() != key.MaxSeq {
		t.Error(s.Seq())
	}
	refused(t, "one more", s, d, changes("d=4"), api.ErrMany)
	refused(t, "none", s, d, nil, api.ErrArg)
	sees(t, "the end", opens(t, "again", d), key.MaxSeq, "a=1 b=2")
	if n := s.Snap(); n != key.MaxSeq || !s.Free(n) {
		t.Error(n)
	}
	flushes(t, s)
	s = opens(t, "flushed", d)
	sees(t, "flushed", s, key.MaxSeq, "a=1 b=2")
	refused(t, "one more", s, d, changes("d=4"), api.ErrMany)
}

// names is the names of a disk's files.
func names(d *disk.Disk) string {
	return strings.Join(d.List(), " ")
}

// P17.2: which part a Put starts.
func TestPutParts(t *testing.T) {
	d := disk.New(1 << 16)
	s := opens(t, "new", d)
	puts(t, s, "a=1", "b=2")
	if names(d) != "log.1" {
		t.Error(names(d))
	}
	s = opens(t, "again", d)
	if names(d) != "log.1" {
		t.Error(names(d))
	}
	puts(t, s, "c=3", "d=4")
	if names(d) != "log.1 log.2" {
		t.Error(names(d))
	}
	// The third part can't be read, so the next one takes its place.
	holds(t, d, "log.3", "half made")
	s = opens(t, "with a part half made", d)
	puts(t, s, "e=5")
	if names(d) != "log.1 log.2 log.3" {
		t.Error(names(d))
	}
	sees(t, "all", opens(t, "all", d), key.MaxSeq, "a=1 b=2 c=3 d=4 e=5")
}

// P17.2: with no part of the version's Log it is that one which a Put starts.
func TestPutVersionsPart(t *testing.T) {
	d := disk.New(1 << 16)
	edited(t, d, edit.Edit{Log: 7})
	logs(t, d, 1, text(1, set("a", 1)))
	s := opens(t, "seven", d)
	puts(t, s, "b=1")
	if names(d) != "log.1 log.7 man.1 now" {
		t.Error(names(d))
	}
	s = opens(t, "again", d)
	puts(t, s, "c=2")
	if names(d) != "log.1 log.7 log.8 man.1 now" {
		t.Error(names(d))
	}
	sees(t, "seven", opens(t, "seven", d), key.MaxSeq, "b=1 c=2")
}

// P17.2: there is a last part that may be started.
func TestPutLastPart(t *testing.T) {
	d := disk.New(1 << 16)
	edited(t, d, edit.Edit{Log: wal.MaxPart})
	s := opens(t, "the last part", d)
	puts(t, s, "a=1")
	s = opens(t, "again", d)
	sees(t, "the last part", s, key.MaxSeq, "a=1")
	refused(t, "no part is left", s, d, changes("b=2"), api.ErrArg)
	must(t, "Flush", s.Flush(), api.ErrArg)
	// A disk that is full, too, tells what the log tells first.
	full := disk.New(d.Used())
	for _, name := range d.List() {
		b, _ := d.Read(name, 0, disk.MaxRoom)
		holds(t, full, name, string(b))
	}
	refused(t, "no part, no room", opens(t, "full", full), full, changes("b=2"), api.ErrArg)
}

// P17.2: a text that has no room is refused, and no part is left; one that has just enough is taken.
func TestPutFull(t *testing.T) {
	list := changes("a=1 b=2 c=3")
	size := record.Head + len(text(3, set("a", 1), set("b", 2), set("c", 3)))
	first := record.Head + 1
	for room := range first + 2*size + 2 {
		d := disk.New(room)
		s := opens(t, "new", d)
		want := api.OK
		if room < first+size {
			want = api.ErrFull
		}
		what := fmt.Sprint("room ", room)
		if want != api.OK {
			refused(t, what, s, d, list, want)
			continue
		}
		must(t, what, s.Put(list), want)
		if room < first+2*size {
			refused(t, what+" again", s, d, list, api.ErrFull)
			sees(t, what, opens(t, what, d), key.MaxSeq, "a=1 b=2 c=3")
		} else {
			must(t, what+" again", s.Put(list), api.OK)
		}
	}
}

// P17.2: a part half made, in the way of the one that is started, makes room as it goes.
func TestPutFullInTheWay(t *testing.T) {
	size := record.Head + len(text(1, set("a", 1)))
	first := record.Head + 1
	for _, old := range []int{1, 5, first, 100} {
		half := strings.Repeat("\x00", min(old, 11)) + strings.Repeat("x", max(0, old-11))
		if old >= record.Head {
			// A record that tells more bytes than follow.
			half = rec(strings.Repeat("y", 200))[:old]
		}
		for room := old; room < old+first+size+2; room++ {
			d := disk.New(room)
			holds(t, d, "log.1", half)
			s := opens(t, "half", d)
			what := fmt.Sprint("old ", old, " room ", room)
			// The first record must have room beside it; the text needn't.
			if room < old+first || room < first+size {
				refused(t, what, s, d, changes("a=1"), api.ErrFull)
				continue
			}
			must(t, what, s.Put(changes("a=1")), api.OK)
			sees(t, what, opens(t, what, d), key.MaxSeq, "a=1")
		}
	}
}

// P17.2: with the power off, and as it goes: nothing is there of what had an error.
func TestPutDown(t *testing.T) {
	for _, begun := range []bool{false, true} {
		for fuse := 1; ; fuse++ {
			d := disk.New(1 << 16)
			s := opens(t, "new", d)
			if begun {
				puts(t, s, "x=1")
			}
			seq := s.Seq()
			d.Fuse(fuse)
			e := s.Put(changes("a=1 b=2"))
			if e == api.OK {
				break
			}
			must(t, fmt.Sprint("fuse ", fuse), e, api.ErrDown)
			must(t, "Put", s.Put(changes("a=1")), api.ErrDown)
			must(t, "nothing", s.Put(nil), api.ErrArg)
			must(t, "wrong", s.Put(changes("=1")), api.ErrArg)
			if s.Seq() != seq {
				t.Error(fuse, s.Seq(), seq)
			}
			d.Crash([]int{1000, 1000})
			if s := opens(t, "again", d); s.Seq() != seq {
				t.Error(fuse, s.Seq(), seq)
			}
		}
	}
}

// P17.2: a disk that is full, and down, tells that it is down.
func TestPutDownFull(t *testing.T) {
	for _, room := range []int{0, 20} {
		d := disk.New(room)
		s := opens(t, "new", d)
		d.Fuse(1)
		must(t, "the power goes", d.Create("x"), api.ErrDown)
		must(t, "Put", s.Put(changes("a=1")), api.ErrDown)
		d.Crash(nil)
		refused(t, "on again", s, d, changes("a=1"), api.ErrFull)
	}
}

// P17.2: a Put keeps nothing of the list.
func TestPutKeepsNothing(t *testing.T) {
	s := opens(t, "new", disk.New(1000))
	list := append(make([]Change, 0, 9), changes("a=1 b=2")...)
	must(t, "Put", s.Put(list), api.OK)
	if shown(list) != "a=1 b=2" || list[:3][2] != (Change{}) {
		t.Error(list[:3])
	}
	list[0] = Change{Key: "z"}
	sees(t, "put", s, key.MaxSeq, "a=1 b=2")
}

// P17.2: Sync lets all last that was put, whether this store put it or another one on the same disk.
func TestSync(t *testing.T) {
	d := disk.New(1 << 16)
	s := opens(t, "new", d)
	puts(t, s, "a=1")
	must(t, "Sync", s.Sync(), api.OK)
	puts(t, s, "b=2")
	x := d.Clone()
	x.Crash(nil)
	sees(t, "not synced", opens(t, "not synced", x), key.MaxSeq, "a=1")
	must(t, "Sync", opens(t, "another", d).Sync(), api.OK)
	d.Fuse(1)
	must(t, "Sync", s.Sync(), api.ErrDown)
	d.Crash(nil)
	sees(t, "synced", opens(t, "synced", d), key.MaxSeq, "a=1 b=2")
}
