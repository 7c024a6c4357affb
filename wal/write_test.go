package wal

import (
	"fmt"
	"math"
	"strings"
	"testing"

	"tailrace/api"
	"tailrace/disk"
	"tailrace/record"
)

// begun is a new log that can be written to, with these texts in part 1.
func begun(t *testing.T, d *disk.Disk, list ...string) *Log {
	t.Helper()
	l := reads(t, d, 1)
	must(t, "Start(1)", l.Start(1), api.OK)
	for _, s := range list {
		must(t, "Add", l.Add(s), api.OK)
	}
	return l
}

// without lets the power of a disk go.
func without(d *disk.Disk) {
	d.Fuse(1)
	d.Create("dark")
}

// P9.2 to P9.4: the chapter's example, byte by byte.
func TestExample(t *testing.T) {
	d := disk.New(1000)
	begun(t, d, "a", "b")
	all := recs("\x00", "a", "b")
	holds(t, "the example", d, "log.1", all)
	reads(t, d, 1, "a", "b")
	for cut := 1; cut <= len(rec("b")); cut++ {
		reads(t, laid(t, 1000, "log.1", all[:len(all)-cut]), 1, "a")
	}
}

// P9.3: parts that are made one behind the other tell how many bytes the one ahead has.
func TestStart(t *testing.T) {
	d := disk.New(5000)
	l := reads(t, d, 1)
	must(t, "Start(1)", l.Start(1), api.OK)
	is(t, "Start(1)", l, 1, 13, true)
	holds(t, "Start(1)", d, "log.1", recs("\x00"))
	must(t, "Start(2)", l.Start(2), api.OK)
	is(t, "Start(2)", l, 2, 13, true)
	holds(t, "Start(2)", d, "log.1", recs("\x00"), "log.2", recs("\x0d"))
	must(t, "Add", l.Add(strings.Repeat("x", 275)), api.OK)
	is(t, "Add", l, 2, 300, true)
	must(t, "Start(3)", l.Start(3), api.OK)
	is(t, "Start(3)", l, 3, 14, true)
	must(t, "Add", l.Add("y"), api.OK)
	holds(t, "Start(3)", d, "log.1", recs("\x00"), "log.2", recs("\x0d", strings.Repeat("x", 275)), "log.3", recs("\xac\x02", "y"))
	reads(t, d, 1, strings.Repeat("x", 275), "y")
}

// P9.3: any number above the last part's will do, and with no part any number at all.
func TestStartAnyNumber(t *testing.T) {
	for _, n := range []int{1, 2, 77, MaxPart - 1, MaxPart} {
		d := laid(t, 1000, "log.3", "x")
		l := reads(t, d, 9)
		must(t, fmt.Sprint("Start ", n), l.Start(n), api.OK)
		must(t, "Add", l.Add("a"), api.OK)
		is(t, fmt.Sprint("Start ", n), l, n, 26, true)
		reads(t, d, n, "a")
	}
	d := disk.New(1000)
	l := begun(t, d, "a")
	must(t, "Start(5)", l.Start(5), api.OK)
	must(t, "Add", l.Add("b"), api.OK)
	holds(t, "Start(5)", d, "log.1", recs("\x00", "a"), "log.5", recs("\x1a", "b"))
	reads(t, d, 5, "b")
	must(t, "Start(4)", l.Start(4), api.ErrArg)
	must(t, "Start(MaxPart)", l.Start(MaxPart), api.OK)
	for _, n := range []int{MaxPart, MaxPart + 1, 1} {
		must(t, fmt.Sprint("Start ", n, " behind the last"), l.Start(n), api.ErrArg)
	}
}

// P9.3: ErrArg, and then ErrDown; neither turns anything.
func TestStartErrors(t *testing.T) {
	wrong := []int{0, -1, math.MinInt, MaxPart + 1, math.MaxInt}
	d := disk.New(1000)
	l := reads(t, d, 1)
	for _, n := range wrong {
		must(t, fmt.Sprint("Start ", n, " of none"), l.Start(n), api.ErrArg)
	}
	holds(t, "refused", d)
	l = begun(t, d, "a")
	must(t, "Start(7)", l.Start(7), api.OK)
	must(t, "Add", l.Add("b"), api.OK)
	had := told(d)
	for _, n := range append(wrong, 1, 6, 7) {
		must(t, fmt.Sprint("Start ", n), l.Start(n), api.ErrArg)
	}
	is(t, "refused", l, 7, 26, true)
	if now := told(d); now != had {
		t.Errorf("refused: %s, was %s", now, had)
	}
	read := reads(t, d, 7, "b")
	for _, n := range append(wrong, 1, 6, 7) {
		must(t, fmt.Sprint("Start ", n, " of one that was read"), read.Start(n), api.ErrArg)
	}
	without(d)
	must(t, "Start without power", l.Start(8), api.ErrDown)
	must(t, "Start without power", read.Start(8), api.ErrDown)
	for _, n := range append(wrong, 1, 6, 7) {
		must(t, fmt.Sprint("Start ", n, " without power"), l.Start(n), api.ErrArg)
	}
	none := reads(t, disk.New(10), 1)
	without(none.on)
	must(t, "Start of none, without power", none.Start(1), api.ErrDown)
}

// P9.3: the last part is sure by then, the new one isn't.
func TestStartSyncs(t *testing.T) {
	d := disk.New(1000)
	l := begun(t, d, "a", "b")
	must(t, "Start(2)", l.Start(2), api.OK)
	must(t, "Add", l.Add("c"), api.OK)
	d.Crash(nil)
	holds(t, "crash", d, "log.1", recs("\x00", "a", "b"), "log.2", "")
	is(t, "crash", reads(t, d, 1, "a", "b"), 1, 39, false)
	// Of a log that was read the last part may not be sure either.
	d = laid(t, 1000, "log.1", recs("\x00", "a"))
	must(t, "Append", d.Append("log.1", []byte(recs("b"))), api.OK)
	l = reads(t, d, 1, "a", "b")
	must(t, "Start(2)", l.Start(2), api.OK)
	d.Crash(nil)
	reads(t, d, 1, "a", "b")
}

// P9.3: a log that was read goes on in a new part: what is left of a record behind the whole ones isn't counted.
func TestStartBehindTail(t *testing.T) {
	for cut := range len(rec("tail")) {
		d := laid(t, 1000, "log.1", recs("\x00", "a")+rec("tail")[:cut])
		l := reads(t, d, 1, "a")
		must(t, "Start(2)", l.Start(2), api.OK)
		must(t, "Add", l.Add("b"), api.OK)
		holds(t, fmt.Sprint("tail of ", cut), d, "log.1", recs("\x00", "a")+rec("tail")[:cut], "log.2", recs("\x1a", "b"))
		reads(t, d, 1, "a", "b")
	}
}

// P9.3: a file that has the name is removed, whatever it holds, and no other one.
func TestStartRemoves(t *testing.T) {
	for _, old := range []string{"", "x", rec("\x1a")[:12], recs("\x1a", "old"), strings.Repeat("x", 500)} {
		d := laid(t, 1000, "log.1", recs("\x00", "a"), "log.3", "stays")
		l := reads(t, d, 1, "a")
		must(t, "Create", d.Create("log.2"), api.OK)
		must(t, "Append", d.Append("log.2", []byte(old)), api.OK)
		must(t, "Start(2)", l.Start(2), api.OK)
		holds(t, fmt.Sprintf("in the place of %q", old), d, "log.1", recs("\x00", "a"), "log.2", recs("\x1a"), "log.3", "stays")
		is(t, fmt.Sprintf("in the place of %q", old), l, 2, 13, true)
	}
}

// P9.3: with no room for the first record nothing is removed and nothing made; but the last part is sure.
func TestStartFull(t *testing.T) {
	for room := 44; room <= 60; room++ {
		d := disk.New(room)
		l := begun(t, d, "a")
		must(t, "Create", d.Create("log.2"), api.OK)
		must(t, "Append", d.Append("log.2", []byte("old")), api.OK)
		must(t, "Create", d.Create("x"), api.OK)
		must(t, "Append", d.Append("x", []byte("0123456")), api.OK)
		// 26 bytes and these ten leave just enough with a room of 49: the file's own three bytes are no room yet.
		if room >= 49 {
			must(t, fmt.Sprint("Start with a room of ", room), l.Start(2), api.OK)
			holds(t, "enough", d, "log.1", recs("\x00", "a"), "log.2", recs("\x1a"), "x", "0123456")
			continue
		}
		must(t, fmt.Sprint("Start with a room of ", room), l.Start(2), api.ErrFull)
		is(t, "full", l, 1, 26, true)
		holds(t, "full", d, "log.1", recs("\x00", "a"), "log.2", "old", "x", "0123456")
		c := d.Clone()
		c.Crash(nil)
		reads(t, c, 1, "a")
		// It goes on as if nothing had been asked.
		must(t, "Remove", d.Remove("x"), api.OK)
		must(t, "Start again", l.Start(2), api.OK)
		must(t, "Start once more", l.Start(2), api.ErrArg)
	}
	for room := range 16 {
		d := disk.New(room)
		l := reads(t, d, 1)
		if room >= 13 {
			must(t, "Start with just enough", l.Start(1), api.OK)
			continue
		}
		must(t, fmt.Sprint("Start with a room of ", room), l.Start(1), api.ErrFull)
		is(t, "full", l, 0, 0, false)
		holds(t, "full", d)
	}
	// The first record is a byte longer, if the part ahead has 128 bytes or more.
	for size, first := range map[int]int{127: 13, 128: 14} {
		for room := size + 10; room < size+20; room++ {
			l := begun(t, disk.New(room), strings.Repeat("x", size-13-12))
			want := api.OK
			if room < size+first {
				want = api.ErrFull
			}
			must(t, fmt.Sprint("Start behind ", size, " bytes with a room of ", room), l.Start(2), want)
		}
	}
}

// P9.3: the last part's sync comes first, with the disk's error.
func TestStartLostPart(t *testing.T) {
	d := disk.New(100)
	l := begun(t, d, "a")
	must(t, "Remove", d.Remove("log.1"), api.OK)
	must(t, "Start", l.Start(2), api.ErrNone)
	must(t, "Create", d.Create("x"), api.OK)
	must(t, "Append", d.Append("x", make([]byte, 100)), api.OK)
	must(t, "Start on a full disk", l.Start(2), api.ErrNone)
	is(t, "lost", l, 1, 26, true)
	must(t, "Sync", l.Sync(), api.ErrNone)
	must(t, "Add", l.Add("b"), api.ErrNone)
}

// P9.3: its steps on the disk, in their order: with the power gone at each of them.
func TestStartSteps(t *testing.T) {
	one := recs("\x00", "a", "b")
	for _, c := range []struct {
		fuse int
		old  bool
		want []string
	}{
		{1, false, []string{"log.1", recs("\x00", "a")}},
		{2, false, []string{"log.1", one}},
		{3, false, []string{"log.1", one, "log.2", ""}},
		{1, true, []string{"log.1", recs("\x00", "a"), "log.2", "old"}},
		{2, true, []string{"log.1", one, "log.2", "old"}},
		{3, true, []string{"log.1", one}},
		{4, true, []string{"log.1", one, "log.2", ""}},
	} {
		d := disk.New(1000)
		l := begun(t, d, "a")
		must(t, "Sync", l.Sync(), api.OK)
		must(t, "Add", l.Add("b"), api.OK)
		if c.old {
			must(t, "Create", d.Create("log.2"), api.OK)
			must(t, "Append", d.Append("log.2", []byte("old")), api.OK)
			must(t, "Sync", d.Sync("log.2"), api.OK)
		}
		d.Fuse(c.fuse)
		must(t, fmt.Sprint("Start with a fuse of ", c.fuse), l.Start(2), api.ErrDown)
		d.Crash(nil)
		holds(t, fmt.Sprint("a fuse of ", c.fuse), d, c.want...)
	}
	for _, c := range []struct{ fuse, part int }{{4, 1}, {3, 0}} {
		d := disk.New(1000)
		l := reads(t, d, 1)
		if c.part > 0 {
			l = begun(t, d)
		}
		d.Fuse(c.fuse)
		must(t, "Start with a fuse that lasts", l.Start(c.part+1), api.OK)
		must(t, "the step behind it", d.Sync(Name(c.part+1)), api.ErrDown)
	}
}

// P9.4: what can't be written to, what is too long, what the disk says: in this order.
func TestAddErrors(t *testing.T) {
	most, long := strings.Repeat("x", record.Most), strings.Repeat("x", record.Most+1)
	d := disk.New(2 << 20)
	l := begun(t, d, "a")
	read := reads(t, d, 1, "a")
	for _, s := range []string{"", "b", most, long} {
		must(t, "Add to one that was read", read.Add(s), api.ErrTurn)
		must(t, "Add to none", reads(t, d, 2).Add(s), api.ErrTurn)
	}
	holds(t, "refused", d, "log.1", recs("\x00", "a"))
	must(t, "Add of too much", l.Add(long), api.ErrLong)
	is(t, "too much", l, 1, 26, true)
	must(t, "Add of the most", l.Add(most), api.OK)
	is(t, "the most", l, 1, 26+12+record.Most, true)
	reads(t, d, 1, "a", most)
	must(t, "Add with no room", l.Add(most), api.ErrFull)
	must(t, "Add of too much with no room", l.Add(long), api.ErrLong)
	is(t, "no room", l, 1, 26+12+record.Most, true)
	must(t, "Add", l.Add("b"), api.OK)
	reads(t, d, 1, "a", most, "b")
	without(d)
	must(t, "Add without power", l.Add("c"), api.ErrDown)
	must(t, "Add of too much without power", l.Add(long), api.ErrLong)
	must(t, "Add to one that was read, without power", read.Add("c"), api.ErrTurn)
}

// P9.4: with just enough room, and a byte less.
func TestAddFull(t *testing.T) {
	for room := 13; room < 60; room++ {
		d := disk.New(room)
		l := begun(t, d)
		if room < 13+12+20 {
			must(t, fmt.Sprint("Add with a room of ", room), l.Add(strings.Repeat("x", 20)), api.ErrFull)
			is(t, "full", l, 1, 13, true)
			holds(t, "full", d, "log.1", recs("\x00"))
			continue
		}
		must(t, fmt.Sprint("Add with a room of ", room), l.Add(strings.Repeat("x", 20)), api.OK)
		is(t, "enough", l, 1, 45, true)
	}
}

// P9.4: texts of all kinds stand one behind the other; Size counts them.
func TestAdd(t *testing.T) {
	texts := []string{"", "", "a", "\x00", "\xff\xfe", "äöü", rec("a record"), strings.Repeat("long ", 1000)}
	d := disk.New(100000)
	l := begun(t, d)
	size := 13
	for i, s := range texts {
		must(t, "Add", l.Add(s), api.OK)
		size += 12 + len(s)
		is(t, fmt.Sprint("text ", i), l, 1, size, true)
		is(t, fmt.Sprint("text ", i, " read"), reads(t, d, 1, texts[:i+1]...), 1, size, false)
	}
	holds(t, "all", d, "log.1", recs(append([]string{"\x00"}, texts...)...))
	// It goes to the last part alone.
	must(t, "Start(2)", l.Start(2), api.OK)
	must(t, "Add", l.Add("last"), api.OK)
	holds(t, "the last part", d, "log.1", recs(append([]string{"\x00"}, texts...)...), "log.2", rec(string([]byte{byte(size%128 + 128), byte(size / 128)}))+rec("last"))
	reads(t, d, 1, append(texts, "last")...)
}

// P9.4: what is synced stays, what isn't may go.
func TestSync(t *testing.T) {
	d := disk.New(1000)
	none := reads(t, d, 1)
	must(t, "Sync of none", none.Sync(), api.OK)
	l := begun(t, d, "a")
	must(t, "Sync", l.Sync(), api.OK)
	must(t, "Add", l.Add("b"), api.OK)
	must(t, "Add", l.Add("c"), api.OK)
	is(t, "Sync", l, 1, 52, true)
	for keep, want := range map[int][]string{0: {"a"}, 12: {"a"}, 13: {"a", "b"}, 25: {"a", "b"}, 26: {"a", "b", "c"}} {
		c := d.Clone()
		c.Crash([]int{keep})
		reads(t, c, 1, want...)
	}
	// The last part of one that was read is synced as well.
	must(t, "Sync of one that was read", reads(t, d, 1, "a", "b", "c").Sync(), api.OK)
	c := d.Clone()
	c.Crash(nil)
	reads(t, c, 1, "a", "b", "c")
	// The last part alone, in one step.
	must(t, "Start(2)", l.Start(2), api.OK)
	must(t, "Append", d.Append("log.1", []byte("tail")), api.OK)
	d.Fuse(2)
	must(t, "Sync", l.Sync(), api.OK)
	must(t, "Sync", l.Sync(), api.ErrDown)
	must(t, "Sync of none, without power", none.Sync(), api.OK)
	d.Crash(nil)
	holds(t, "the last part alone", d, "log.1", recs("\x00", "a", "b", "c"), "log.2", recs("\x34"))
}
