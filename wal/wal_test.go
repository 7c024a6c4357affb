package wal

import (
	"fmt"
	"hash/crc32"
	"math"
	"slices"
	"strings"
	"testing"

	"tailrace/api"
	"tailrace/disk"
	"tailrace/record"
)

// little is a number's four bytes, the lowest first.
func little(n uint32) string {
	return string([]byte{byte(n), byte(n >> 8), byte(n >> 16), byte(n >> 24)})
}

// masked is a check as the document tells it, by the library's CRC.
func masked(s string) string {
	sum := crc32.Checksum([]byte(s), crc32.MakeTable(crc32.Castagnoli))
	return little((sum>>15 | sum<<17) + 0xa282ead8)
}

// rec is the record of a text, as the document tells it.
func rec(s string) string {
	length := little(uint32(len(s)))
	return length + masked(length) + masked(s) + s
}

// recs is the records of texts, one behind the other.
func recs(list ...string) string {
	all := ""
	for _, s := range list {
		all += rec(s)
	}
	return all
}

// laid is a disk with files of these bytes, by name and text in turn, all of them sure.
func laid(t *testing.T, room int, list ...string) *disk.Disk {
	t.Helper()
	d := disk.New(room)
	for i := 0; i+1 < len(list); i += 2 {
		must(t, "Create "+list[i], d.Create(list[i]), api.OK)
		must(t, "Append "+list[i], d.Append(list[i], []byte(list[i+1])), api.OK)
		must(t, "Sync "+list[i], d.Sync(list[i]), api.OK)
	}
	return d
}

// must tells whether a call answered the error that is wanted.
func must(t *testing.T, what string, got, want api.Errno) {
	t.Helper()
	if got != want {
		t.Errorf("%s: %d, want %d", what, got, want)
	}
}

// told is all that a disk holds, as one text, with the bytes that a crash leaves.
func told(d *disk.Disk) string {
	var s strings.Builder
	fmt.Fprint(&s, "room ", d.Room(), " down ", d.Down())
	sure := d.Clone()
	sure.Crash(nil)
	for _, name := range sure.List() {
		all, e := d.Read(name, 0, disk.MaxRoom)
		left, _ := sure.Read(name, 0, disk.MaxRoom)
		fmt.Fprintf(&s, " %s:%q:%d:%d", name, all, e, len(left))
	}
	return s.String()
}

// asked is all that a Log tells of itself.
func asked(l *Log) string {
	return fmt.Sprint("part ", l.Part(), " size ", l.Size(), " opened ", l.Opened())
}

// is tells whether a Log says so of itself.
func is(t *testing.T, what string, l *Log, part, size int, opened bool) {
	t.Helper()
	want := fmt.Sprint("part ", part, " size ", size, " opened ", opened)
	if got := asked(l); got != want {
		t.Errorf("%s: %s, want %s", what, got, want)
	}
}

// holds tells whether a disk has just these files, by name and text in turn.
func holds(t *testing.T, what string, d *disk.Disk, list ...string) {
	t.Helper()
	var names []string
	for i := 0; i+1 < len(list); i += 2 {
		names = append(names, list[i])
		if b, e := d.Read(list[i], 0, disk.MaxRoom); e != api.OK || string(b) != list[i+1] {
			t.Errorf("%s: file %s: %q %d, want %q", what, list[i], b, e, list[i+1])
		}
	}
	if got := d.List(); !slices.Equal(got, names) {
		t.Errorf("%s: files %q, want %q", what, got, names)
	}
}

// reads opens a log that is right, and tells whether it has these texts; nothing is turned on the disk.
func reads(t *testing.T, d *disk.Disk, from int, want ...string) *Log {
	t.Helper()
	had := told(d)
	l, got, e := Open(d, from)
	if e != api.OK || l == nil || !slices.Equal(got, want) {
		t.Fatalf("Open from %d: %q %d, want %q", from, got, e, want)
	}
	if l.Opened() {
		t.Errorf("Open from %d can be written to", from)
	}
	if now := told(d); now != had {
		t.Errorf("Open from %d turned the disk: %s, was %s", from, now, had)
	}
	return l
}

// refuses opens a log that isn't right.
func refuses(t *testing.T, what string, d *disk.Disk, from int, want api.Errno) {
	t.Helper()
	l, got, e := Open(d, from)
	if e != want || l != nil || len(got) != 0 {
		t.Errorf("Open %s: %v %q %d, want %d alone", what, l, got, e, want)
	}
}

// P9.1: the name of a part, and the part of a name.
func TestName(t *testing.T) {
	if MaxPart != 1073741824 {
		t.Errorf("MaxPart: %d", MaxPart)
	}
	for n, name := range map[int]string{
		1: "log.1", 2: "log.2", 9: "log.9", 10: "log.10", 12: "log.12", 1000: "log.1000",
		MaxPart - 1: "log.1073741823", MaxPart: "log.1073741824",
	} {
		if got := Name(n); got != name {
			t.Errorf("Name(%d): %q, want %q", n, got, name)
		}
		if got, ok := Number(name); got != n || !ok {
			t.Errorf("Number(%q): %d %v, want %d", name, got, ok, n)
		}
		if !disk.Named(name) {
			t.Errorf("no file may have the name %q", name)
		}
	}
	for n := 1; n < 3000; n++ {
		if got, ok := Number(Name(n)); got != n || !ok {
			t.Errorf("Number of Name(%d): %d %v", n, got, ok)
		}
	}
}

// P9.1: names that are no part's, numbers out of their bounds and in other forms among them.
func TestNumberOfOthers(t *testing.T) {
	for _, name := range []string{
		"", ".", "1", "log", "log.", "log1", "log..1", "log.1.", "log.1.1", "log.log.1", ".1", "og.1", "xlog.1", "x.1",
		"Log.1", "LOG.1", "log. 1", "log.1 ", " log.1", "log.1\n", "log.1\x00", "log.x", "log.1x", "log.a", "log.0x1", "log.1e1",
		"log.0", "log.00", "log.01", "log.+1", "log.-1", "log.-0", "log.1_0", "log.1,0", "log.\u0661",
		"log.1073741825", "log.2147483648", "log.4294967297", "log.9223372036854775807", "log.9223372036854775808",
		"log.18446744073709551617", "log." + strings.Repeat("1", 100), "file.1", "man.1",
	} {
		if n, ok := Number(name); n != 0 || ok {
			t.Errorf("Number(%q): %d %v", name, n, ok)
		}
	}
	for _, n := range []int{0, -1, math.MinInt, MaxPart + 1, math.MaxInt} {
		if got, ok := Number(Name(n)); got != 0 || ok {
			t.Errorf("Number of Name(%d): %d %v", n, got, ok)
		}
	}
}

// P9.1: a nil Log; and one that Open didn't make doesn't panic.
func TestNil(t *testing.T) {
	var l *Log
	must(t, "nil Start", l.Start(1), api.ErrArg)
	must(t, "nil Start out of bounds", l.Start(0), api.ErrArg)
	must(t, "nil Add", l.Add("x"), api.ErrArg)
	must(t, "nil Add of much", l.Add(strings.Repeat("x", record.Most+1)), api.ErrArg)
	must(t, "nil Sync", l.Sync(), api.ErrArg)
	is(t, "nil", l, 0, 0, false)
	empty := &Log{}
	must(t, "empty Start", empty.Start(1), api.ErrArg)
	must(t, "empty Add", empty.Add("x"), api.ErrTurn)
	must(t, "empty Sync", empty.Sync(), api.OK)
	is(t, "empty", empty, 0, 0, false)
}

// P9.2: ErrArg, and then ErrDown.
func TestOpenErrors(t *testing.T) {
	d := laid(t, 1000, "log.1", recs("\x00", "a"))
	for _, from := range []int{0, -1, math.MinInt, MaxPart + 1, math.MaxInt} {
		refuses(t, fmt.Sprint("from ", from), d, from, api.ErrArg)
		refuses(t, fmt.Sprint("no disk, from ", from), nil, from, api.ErrArg)
	}
	refuses(t, "no disk", nil, 1, api.ErrArg)
	d.Fuse(1)
	must(t, "Sync", d.Sync("log.1"), api.ErrDown)
	for _, from := range []int{1, 2, MaxPart} {
		refuses(t, "without power", d, from, api.ErrDown)
	}
	refuses(t, "without power, from 0", d, 0, api.ErrArg)
	d.Crash(nil)
	reads(t, d, 1, "a")
}

// P9.2: a disk with no part has the Log of none.
func TestOpenNothing(t *testing.T) {
	for _, d := range []*disk.Disk{
		disk.New(0), disk.New(1000), laid(t, 1000, "log", "x", "log.0", recs("\x00", "a"), "log.01", recs("\x00", "a"), "man.1", "x"),
	} {
		for _, from := range []int{1, 2, 77, MaxPart} {
			is(t, "Open of nothing", reads(t, d, from), 0, 0, false)
		}
	}
}

// P9.2: parts one behind the other, from each of them on; texts of all kinds.
func TestOpenParts(t *testing.T) {
	odd := "\x00\xff\xc3" + rec("inner") + strings.Repeat("z", 300)
	// The first part has 0x33 bytes, the second, with no texts, 0x0d.
	one, two, three := recs("\x00", "a", "", "b"), recs("\x33"), recs("\x0d", odd, "c")
	d := laid(t, 5000, "log.1", one, "log.2", two, "log.3", three, "log.5", recs("\x00", "far"))
	is(t, "from 1", reads(t, d, 1, "a", "", "b", odd, "c"), 3, len(three), false)
	is(t, "from 2", reads(t, d, 2, odd, "c"), 3, len(three), false)
	is(t, "from 3", reads(t, d, 3, odd, "c"), 3, len(three), false)
	is(t, "from 4", reads(t, d, 4), 0, 0, false)
	is(t, "from 5", reads(t, d, 5, "far"), 5, len(recs("\x00", "far")), false)
	is(t, "from 6", reads(t, d, 6), 0, 0, false)
}

// P9.2: the last number that a part may have has none behind it, whatever files there are.
func TestOpenLastNumber(t *testing.T) {
	last := recs("\x00", "a")
	d := laid(t, 1000, "log.1073741823", recs("\x00"), "log.1073741824", recs("\x0d", "a"), "log.1073741825", recs("\x1a", "b"))
	is(t, "from the last", reads(t, d, MaxPart, "a"), MaxPart, len(last), false)
	is(t, "from the last but one", reads(t, d, MaxPart-1, "a"), MaxPart, len(last), false)
}

// P9.2: each length of a part: what is behind its last whole record says nothing, and with no whole record there is no part.
func TestOpenCut(t *testing.T) {
	one, two := recs("\x00", "a", "", "bcd"), recs("\x35", "e", "fg")
	// Where each record of the second part ends, and what is read up to there.
	ends, texts := []int{13, 26, 40}, []string{"e", "fg"}
	for size := range len(two) + 1 {
		d := laid(t, 1000, "log.1", one, "log.2", two[:size], "log.3", recs("\x28", "h"))
		whole := 0
		for whole < len(ends) && ends[whole] <= size {
			whole++
		}
		want := []string{"a", "", "bcd"}
		switch {
		case whole == 0:
			is(t, fmt.Sprint("cut to ", size), reads(t, d, 1, want...), 1, len(one), false)
			is(t, fmt.Sprint("cut to ", size, " from 2"), reads(t, d, 2), 0, 0, false)
		case whole < len(ends):
			refuses(t, fmt.Sprint("cut to ", size, ", with a part behind it"), d, 1, api.ErrBad)
			must(t, "Remove", d.Remove("log.3"), api.OK)
			is(t, fmt.Sprint("cut to ", size), reads(t, d, 1, append(want, texts[:whole-1]...)...), 2, ends[whole-1], false)
		default:
			is(t, "whole", reads(t, d, 1, append(want, "e", "fg", "h")...), 3, 26, false)
		}
	}
}

// P9.2: a part that ends within a record counts only up to there for the part behind it.
func TestOpenTail(t *testing.T) {
	one := recs("\x00", "a")
	for cut := 1; cut < len(rec("tail")); cut++ {
		d := laid(t, 1000, "log.1", one+rec("tail")[:cut], "log.2", recs("\x1a", "b"))
		is(t, fmt.Sprint("tail of ", cut), reads(t, d, 1, "a", "b"), 2, 26, false)
		d = laid(t, 1000, "log.1", one+rec("tail")[:cut], "log.2", rec(string([]byte{byte(len(one) + cut)})))
		refuses(t, "tail that is counted", d, 1, api.ErrBad)
	}
}

// P9.2: bits turned in any byte of any record are told.
func TestOpenBad(t *testing.T) {
	parts := []string{recs("\x00", "a", "bcd"), recs("\x29", "", "e"), recs("\x26", "f")}
	for i, p := range parts {
		name := Name(i + 1)
		for at := range len(p) {
			for _, bits := range []byte{1, 128, 255, 6} {
				d := laid(t, 1000, "log.1", parts[0], "log.2", parts[1], "log.3", parts[2])
				must(t, "Spoil", d.Spoil(name, at, bits), api.OK)
				refuses(t, fmt.Sprint(name, " turned at ", at), d, 1, api.ErrBad)
				refuses(t, fmt.Sprint(name, " turned at ", at), d, i+1, api.ErrBad)
				if i < 2 {
					reads(t, d, 3, "f")
				}
			}
		}
	}
	d := laid(t, 1000, "log.1", parts[0], "log.2", parts[1], "log.3", parts[2])
	reads(t, d, 1, "a", "bcd", "", "e", "f")
	for _, bad := range []string{strings.Repeat("x", record.Head), strings.Repeat("\x00", record.Head), little(1<<20+1) + masked(little(1<<20+1)) + masked("")} {
		refuses(t, "no record", laid(t, 1000, "log.1", bad), 1, api.ErrBad)
		refuses(t, "no record behind others", laid(t, 1000, "log.1", parts[0]+bad), 1, api.ErrBad)
		reads(t, laid(t, 1000, "log.1", parts[0]+bad[:record.Head-1]), 1, "a", "bcd")
	}
}

// P9.2: a first record that tells no number up to disk.MaxRoom.
func TestOpenFirst(t *testing.T) {
	for _, first := range []string{
		"", "\x00\x00", "\x01\x00", "\x80", "\x80\x00", "\x8d\x00", "\x0d\x0d", "\x0dx", "x\xff",
		"\x81\x80\x80\x20", "\x80\x80\x80\x40", "\xff\xff\xff\xff\xff\xff\xff\xff\xff\x01", "\x80\x80\x80\x80\x80\x80\x80\x80\x80\x01",
		"\xff\xff\xff\xff\xff\xff\xff\xff\xff\x02", strings.Repeat("\x80", 20), "\x8d\x80\x80\x80\x10",
	} {
		refuses(t, fmt.Sprintf("first record %q", first), laid(t, 1000, "log.7", recs(first, "a")), 7, api.ErrBad)
		refuses(t, fmt.Sprintf("first record %q alone", first), laid(t, 1000, "log.7", recs(first)), 7, api.ErrBad)
		refuses(t, fmt.Sprintf("first record %q of the second", first), laid(t, 1000, "log.6", recs("\x00"), "log.7", recs(first, "a")), 6, api.ErrBad)
	}
	// Of the part from whatever number is right.
	for _, first := range []string{"\x00", "\x01", "\x0d", "\x7f", "\xac\x02", "\xff\xff\xff\x1f", "\x80\x80\x80\x20"} {
		l := reads(t, laid(t, 1000, "log.7", recs(first, "a")), 7, "a")
		is(t, "first record", l, 7, len(recs(first, "a")), false)
	}
}

// P9.2: of the parts behind from the number must be that of the bytes of the part ahead.
func TestOpenAhead(t *testing.T) {
	one := recs("\x00", "a", "b")
	for n := range 128 {
		d := laid(t, 1000, "log.1", one, "log.2", recs(string([]byte{byte(n)}), "c"))
		if n == len(one) {
			reads(t, d, 1, "a", "b", "c")
		} else {
			refuses(t, fmt.Sprint("with ", n, " bytes told of the part ahead"), d, 1, api.ErrBad)
		}
		reads(t, d, 2, "c")
	}
	refuses(t, "with MaxRoom told", laid(t, 1000, "log.1", one, "log.2", recs("\x80\x80\x80\x20", "c")), 1, api.ErrBad)
	// The third is held against the second, not against both together.
	d := laid(t, 1000, "log.1", one, "log.2", recs("\x27", "c"), "log.3", recs("\x1a", "d"))
	reads(t, d, 1, "a", "b", "c", "d")
	d = laid(t, 1000, "log.1", one, "log.2", recs("\x27", "c"), "log.3", recs("\x41", "d"))
	refuses(t, "with both told", d, 1, api.ErrBad)
}

// P9.2: Open is no step on the disk, and two of them share nothing.
func TestOpenTurnsNothing(t *testing.T) {
	d := laid(t, 1000, "log.1", recs("\x00", "a"))
	must(t, "Append", d.Append("log.1", []byte(recs("b"))), api.OK)
	d.Fuse(1)
	l := reads(t, d, 1, "a", "b")
	other, list, e := Open(d, 1)
	if e != api.OK || other == l {
		t.Errorf("Open again: %d", e)
	}
	list[0] = "turned"
	reads(t, d, 1, "a", "b")
	must(t, "the first step", d.Create("x"), api.ErrDown)
}
