package disk

import (
	"fmt"
	"math"
	"slices"
	"strings"
	"testing"

	"tailrace/api"
)

// must tells whether a call answered the error that is wanted.
func must(t *testing.T, what string, got, want api.Errno) {
	t.Helper()
	if got != want {
		t.Errorf("%s: %d, want %d", what, got, want)
	}
}

// made is a disk with files of these bytes, by name and text in turn, all of them sure.
func made(t *testing.T, room int, list ...string) *Disk {
	t.Helper()
	d := New(room)
	for i := 0; i+1 < len(list); i += 2 {
		must(t, "Create "+list[i], d.Create(list[i]), api.OK)
		must(t, "Append "+list[i], d.Append(list[i], []byte(list[i+1])), api.OK)
		must(t, "Sync "+list[i], d.Sync(list[i]), api.OK)
	}
	return d
}

// lay appends text that isn't sure.
func lay(t *testing.T, d *Disk, name, text string) {
	t.Helper()
	must(t, "Append "+name, d.Append(name, []byte(text)), api.OK)
}

// told is all that can be asked of a disk, as one text.
func told(d *Disk) string {
	var s strings.Builder
	fmt.Fprint(&s, "used ", d.Used(), " room ", d.Room(), " down ", d.Down())
	for _, name := range d.List() {
		size, e := d.Size(name)
		b, e2 := d.Read(name, 0, size+1)
		fmt.Fprintf(&s, " %s:%q:%d:%d:%d", name, b, size, e, e2)
	}
	return s.String()
}

// whole is all that a disk holds: what can be asked now, behind a crash, and step by step until its fuse is burnt.
func whole(d *Disk) string {
	if d == nil {
		return "none"
	}
	s := told(d)
	for _, keep := range [][]int{nil, {1, 2, 3}, {99, 99, 99, 99}} {
		c := d.Clone()
		c.Crash(keep)
		s += " | " + told(c)
	}
	c := d.Clone()
	for range 8 {
		s += fmt.Sprint(" ", c.Create("zz"), c.Remove("zz"))
	}
	return s
}

// holds tells whether a disk has just these files, by name and text in turn.
func holds(t *testing.T, d *Disk, list ...string) {
	t.Helper()
	var names []string
	used := 0
	for i := 0; i+1 < len(list); i += 2 {
		names = append(names, list[i])
		used += len(list[i+1])
		b, e := d.Read(list[i], 0, math.MaxInt)
		if e != api.OK || string(b) != list[i+1] {
			t.Errorf("file %s: %q %d, want %q", list[i], b, e, list[i+1])
		}
		if n, e := d.Size(list[i]); e != api.OK || n != len(list[i+1]) {
			t.Errorf("Size(%s): %d %d, want %d", list[i], n, e, len(list[i+1]))
		}
	}
	if got := d.List(); !slices.Equal(got, names) {
		t.Errorf("List: %q, want %q", got, names)
	}
	if d.Used() != used {
		t.Errorf("Used: %d, want %d", d.Used(), used)
	}
}

// P4.1: a new disk has no files, and room within its bounds.
func TestNew(t *testing.T) {
	for _, c := range []struct{ room, want int }{
		{math.MinInt, 0}, {-1, 0}, {0, 0}, {1, 1}, {1000, 1000},
		{1<<26 - 1, 1<<26 - 1}, {1 << 26, 1 << 26}, {1<<26 + 1, 1 << 26}, {math.MaxInt, 1 << 26},
	} {
		d := New(c.room)
		if d == nil || d.Room() != c.want || d.Used() != 0 || len(d.List()) != 0 || d.Down() {
			t.Errorf("New(%d): %s, want room %d", c.room, told(d), c.want)
		}
	}
	if MaxRoom != 1<<26 {
		t.Errorf("MaxRoom: %d", MaxRoom)
	}
}

// P4.1: each byte, and each length, that a name may have.
func TestNamed(t *testing.T) {
	for c := range 256 {
		want := strings.IndexByte("abcdefghijklmnopqrstuvwxyz0123456789.", byte(c)) >= 0
		one := string([]byte{byte(c)})
		for _, name := range []string{one, "a" + one, one + "a", "a" + one + "0", strings.Repeat("a", 39) + one} {
			if Named(name) != want {
				t.Errorf("Named(%q): %v", name, !want)
			}
		}
	}
	for size := range 100 {
		if got, want := Named(strings.Repeat("a", size)), size >= 1 && size <= 40; got != want {
			t.Errorf("Named of %d bytes: %v", size, got)
		}
	}
	for name, want := range map[string]bool{".": true, "..": true, "log.1": true, "a b": false, "log/1": false, "é": false, "a\x00": false} {
		if Named(name) != want {
			t.Errorf("Named(%q): %v", name, !want)
		}
	}
}

// P4.1: a file is made once, empty, and only by a right name.
func TestCreate(t *testing.T) {
	d := New(10)
	must(t, "Create", d.Create("b"), api.OK)
	holds(t, d, "b", "")
	lay(t, d, "b", "xy")
	must(t, "Create again", d.Create("b"), api.ErrHave)
	holds(t, d, "b", "xy")
	for _, name := range []string{"", "B", "a/b", strings.Repeat("a", 41)} {
		must(t, "Create "+name, d.Create(name), api.ErrArg)
	}
	must(t, "Create longest", d.Create(strings.Repeat("a", 40)), api.OK)
	must(t, "Create .", d.Create("."), api.OK)
	holds(t, d, ".", "", strings.Repeat("a", 40), "", "b", "xy")
	must(t, "Remove", d.Remove("b"), api.OK)
	must(t, "Create behind Remove", d.Create("b"), api.OK)
	holds(t, d, ".", "", strings.Repeat("a", 40), "", "b", "")
}

// P4.1: a full disk takes files, but no bytes.
func TestNoRoom(t *testing.T) {
	d := New(0)
	must(t, "Create", d.Create("a"), api.OK)
	must(t, "Append nothing", d.Append("a", nil), api.OK)
	must(t, "Append a byte", d.Append("a", []byte{1}), api.ErrFull)
	must(t, "Sync", d.Sync("a"), api.OK)
	holds(t, d, "a", "")
}

// P4.1: bytes come behind those of the file, as long as there is room for all of them.
func TestAppend(t *testing.T) {
	d := made(t, 10, "a", "abc", "b", "")
	lay(t, d, "a", "de")
	lay(t, d, "b", "xy")
	lay(t, d, "a", "")
	holds(t, d, "a", "abcde", "b", "xy")
	must(t, "Append too much", d.Append("b", []byte("1234")), api.ErrFull)
	holds(t, d, "a", "abcde", "b", "xy")
	lay(t, d, "b", "123")
	if d.Room() != 0 {
		t.Errorf("Room: %d, want 0", d.Room())
	}
	must(t, "Append a byte too much", d.Append("a", []byte("z")), api.ErrFull)
	must(t, "Append nothing", d.Append("a", []byte{}), api.OK)
	must(t, "Append to none", d.Append("c", []byte("z")), api.ErrNone)
	must(t, "Append to none, too much", d.Append("c", make([]byte, 99)), api.ErrNone)
	must(t, "Append to no name", d.Append("", nil), api.ErrNone)
	must(t, "Append to a wrong name", d.Append("A/", nil), api.ErrNone)
	holds(t, d, "a", "abcde", "b", "xy123")
	must(t, "Remove", d.Remove("a"), api.OK)
	if d.Room() != 5 {
		t.Errorf("Room behind Remove: %d, want 5", d.Room())
	}
	lay(t, d, "b", "45678")
	holds(t, d, "b", "xy12345678")
}

// P4.1: the greatest disk is filled to its last byte.
func TestAppendGreatest(t *testing.T) {
	d := made(t, math.MaxInt, "a", "")
	must(t, "Append", d.Append("a", make([]byte, MaxRoom+1)), api.ErrFull)
	must(t, "Append", d.Append("a", make([]byte, MaxRoom-1)), api.OK)
	must(t, "Append", d.Append("a", []byte("xy")), api.ErrFull)
	must(t, "Append", d.Append("a", []byte("x")), api.OK)
	if d.Room() != 0 || d.Used() != MaxRoom {
		t.Errorf("Room %d, Used %d", d.Room(), d.Used())
	}
	if b, e := d.Read("a", MaxRoom-2, 9); e != api.OK || string(b) != "\x00x" {
		t.Errorf("Read: %q %d", b, e)
	}
}

// P4.1: Sync and Remove of files that are there, and that aren't.
func TestSyncRemove(t *testing.T) {
	d := made(t, 10, "a", "ab", "b", "cd")
	must(t, "Sync none", d.Sync("c"), api.ErrNone)
	must(t, "Sync a wrong name", d.Sync("C"), api.ErrNone)
	must(t, "Remove none", d.Remove("c"), api.ErrNone)
	must(t, "Remove a wrong name", d.Remove(""), api.ErrNone)
	holds(t, d, "a", "ab", "b", "cd")
	lay(t, d, "b", "ef")
	must(t, "Sync a", d.Sync("a"), api.OK)
	must(t, "Sync a again", d.Sync("a"), api.OK)
	c := d.Clone()
	c.Crash(nil)
	holds(t, c, "a", "ab", "b", "cd")
	must(t, "Sync b", d.Sync("b"), api.OK)
	d.Crash(nil)
	holds(t, d, "a", "ab", "b", "cdef")
	must(t, "Remove", d.Remove("a"), api.OK)
	must(t, "Remove again", d.Remove("a"), api.ErrNone)
	must(t, "Append", d.Append("a", nil), api.ErrNone)
	holds(t, d, "b", "cdef")
}

// P4.1: a file takes another name, and what had it goes; its own name leaves it.
func TestRename(t *testing.T) {
	d := made(t, 10, "a", "ab", "b", "cde")
	must(t, "Rename", d.Rename("a", "c"), api.OK)
	holds(t, d, "b", "cde", "c", "ab")
	must(t, "Rename over", d.Rename("c", "b"), api.OK)
	holds(t, d, "b", "ab")
	if d.Room() != 8 {
		t.Errorf("Room: %d, want 8", d.Room())
	}
	must(t, "Rename to itself", d.Rename("b", "b"), api.OK)
	holds(t, d, "b", "ab")
	must(t, "Rename none", d.Rename("a", "x"), api.ErrNone)
	must(t, "Rename none to itself", d.Rename("a", "a"), api.ErrNone)
	must(t, "Rename none over", d.Rename("a", "b"), api.ErrNone)
	must(t, "Rename a wrong name", d.Rename("", "x"), api.ErrNone)
	must(t, "Rename to a wrong name", d.Rename("b", "B"), api.ErrArg)
	must(t, "Rename to no name", d.Rename("b", ""), api.ErrArg)
	must(t, "Rename to a long name", d.Rename("b", strings.Repeat("b", 41)), api.ErrArg)
	must(t, "Rename none to a wrong name", d.Rename("a", "B"), api.ErrArg)
	holds(t, d, "b", "ab")
	must(t, "Create what was renamed", d.Create("a"), api.OK)
	holds(t, d, "a", "", "b", "ab")
}

// P4.1, P4.3: a file that has another name has the same bytes that are sure.
func TestRenameKeepsWhatIsSure(t *testing.T) {
	d := made(t, 20, "a", "ab", "b", "cdefg")
	lay(t, d, "a", "xyz")
	must(t, "Rename", d.Rename("a", "b"), api.OK)
	must(t, "Rename to itself", d.Rename("b", "b"), api.OK)
	c := d.Clone()
	c.Crash(nil)
	holds(t, c, "b", "ab")
	d.Crash([]int{2})
	holds(t, d, "b", "abxy")
}

// P4.2: each place and each number of bytes.
func TestRead(t *testing.T) {
	const text = "abcde"
	d := made(t, 10, "a", text, "e", "")
	for at := -2; at < 8; at++ {
		for n := -2; n < 8; n++ {
			b, e := d.Read("a", at, n)
			if at < 0 || at > len(text) || n < 0 {
				if e != api.ErrArg || len(b) != 0 {
					t.Errorf("Read(%d, %d): %q %d, want ErrArg", at, n, b, e)
				}
				continue
			}
			if want := text[at:min(at+n, len(text))]; e != api.OK || string(b) != want {
				t.Errorf("Read(%d, %d): %q %d, want %q", at, n, b, e, want)
			}
		}
	}
	for _, c := range []struct {
		name  string
		at, n int
		want  string
		e     api.Errno
	}{
		{"a", 2, math.MaxInt, "cde", api.OK},
		{"a", 5, math.MaxInt, "", api.OK},
		{"a", math.MaxInt, math.MaxInt, "", api.ErrArg},
		{"a", math.MinInt, 1, "", api.ErrArg},
		{"a", 0, math.MinInt, "", api.ErrArg},
		{"e", 0, 9, "", api.OK},
		{"e", 1, 0, "", api.ErrArg},
		{"c", -1, -1, "", api.ErrNone},
		{"", 0, 0, "", api.ErrNone},
	} {
		if b, e := d.Read(c.name, c.at, c.n); e != c.e || string(b) != c.want {
			t.Errorf("Read(%s, %d, %d): %q %d, want %q %d", c.name, c.at, c.n, b, e, c.want, c.e)
		}
	}
	lay(t, d, "a", "fg")
	if b, e := d.Read("a", 4, 9); e != api.OK || string(b) != "efg" {
		t.Errorf("Read of what isn't sure: %q %d", b, e)
	}
}

// P4.2: Size, List, Used, Room.
func TestSizeListUsedRoom(t *testing.T) {
	d := New(100)
	if len(d.List()) != 0 || d.Used() != 0 || d.Room() != 100 {
		t.Error(told(d))
	}
	if n, e := d.Size("a"); n != 0 || e != api.ErrNone {
		t.Errorf("Size of none: %d %d", n, e)
	}
	names := []string{"z", "b", ".", "a10", "a.1", "a9", "a", "0", "9z"}
	for i, name := range names {
		must(t, "Create", d.Create(name), api.OK)
		lay(t, d, name, strings.Repeat("x", i))
		if n, e := d.Size(name); n != i || e != api.OK {
			t.Errorf("Size(%s): %d %d, want %d", name, n, e, i)
		}
	}
	want := []string{".", "0", "9z", "a", "a.1", "a10", "a9", "b", "z"}
	if got := d.List(); !slices.Equal(got, want) {
		t.Errorf("List: %q, want %q", got, want)
	}
	if d.Used() != 36 || d.Room() != 64 {
		t.Errorf("Used %d, Room %d", d.Used(), d.Room())
	}
}

// P4.2: bits of a byte are turned; wrong places are told.
func TestSpoil(t *testing.T) {
	d := made(t, 20, "a", "abc", "b", "", "c", "abc")
	lay(t, d, "a", "de")
	for at := range 5 {
		must(t, "Spoil", d.Spoil("a", at, byte(1<<at)), api.OK)
	}
	holds(t, d, "a", "`"+string([]byte{'b' ^ 2, 'c' ^ 4, 'd' ^ 8, 'e' ^ 16}), "b", "", "c", "abc")
	must(t, "Spoil nothing", d.Spoil("a", 0, 0), api.OK)
	for at := range 5 {
		must(t, "Spoil back", d.Spoil("a", at, byte(1<<at)), api.OK)
	}
	must(t, "Spoil all bits", d.Spoil("c", 2, 255), api.OK)
	for _, at := range []int{-1, 5, 6, math.MinInt, math.MaxInt} {
		must(t, "Spoil outside", d.Spoil("a", at, 1), api.ErrArg)
	}
	must(t, "Spoil an empty file", d.Spoil("b", 0, 1), api.ErrArg)
	must(t, "Spoil none", d.Spoil("x", -1, 1), api.ErrNone)
	holds(t, d, "a", "abcde", "b", "", "c", "ab\x9c")
	// Turned bits are neither surer nor less sure than they were.
	must(t, "Spoil", d.Spoil("a", 1, 1), api.OK)
	must(t, "Spoil", d.Spoil("a", 3, 1), api.OK)
	d.Crash([]int{1})
	holds(t, d, "a", "acce", "b", "", "c", "ab\x9c")
}

// P4.2: a clone answers as the disk does, and neither hears of the other.
func TestClone(t *testing.T) {
	d := made(t, 40, "a", "ab", "b", "cd")
	lay(t, d, "a", "efg")
	d.Fuse(3)
	before := whole(d)
	c := d.Clone()
	if c == d || whole(c) != before {
		t.Errorf("Clone: %s, want %s", whole(c), before)
	}
	must(t, "Spoil", d.Spoil("b", 0, 1), api.OK)
	must(t, "Append", d.Append("a", []byte("h")), api.OK)
	must(t, "Remove", d.Remove("b"), api.OK)
	must(t, "Sync", d.Sync("a"), api.ErrDown)
	if whole(c) != before {
		t.Errorf("the clone was turned: %s, want %s", whole(c), before)
	}
	before = whole(d)
	must(t, "Append", c.Append("a", []byte("xyz")), api.OK)
	must(t, "Spoil", c.Spoil("a", 0, 255), api.OK)
	must(t, "Create", c.Create("c"), api.OK)
	c.Crash(nil)
	if whole(d) != before {
		t.Errorf("the disk was turned: %s, want %s", whole(d), before)
	}
	off := d.Clone()
	if !off.Down() {
		t.Error("the clone of a disk whose power is off has power")
	}
	off.Crash(nil)
	holds(t, off, "a", "ab")
	if !d.Down() {
		t.Error("the clone's crash let the disk's power come again")
	}
}

// P4.2: bytes that are appended to both of a disk and its clone stay apart, whatever room a list had.
func TestCloneAppendsApart(t *testing.T) {
	d := made(t, 1000, "a", "")
	for range 40 {
		lay(t, d, "a", "x")
		c := d.Clone()
		e := d.Clone()
		lay(t, c, "a", "1")
		lay(t, e, "a", "2")
		lay(t, d, "a", "3")
		size, _ := d.Size("a")
		for _, one := range []struct {
			d    *Disk
			want string
		}{{c, "1"}, {e, "2"}, {d, "3"}} {
			if b, _ := one.d.Read("a", size-1, 1); string(b) != one.want {
				t.Fatalf("at %d: %q, want %q", size, b, one.want)
			}
		}
	}
}

// P4.3: the power goes at the n-th step, whichever it is: that step does nothing.
func TestFuseEachStep(t *testing.T) {
	steps := []struct {
		what string
		call func(d *Disk) api.Errno
	}{
		{"Create", func(d *Disk) api.Errno { return d.Create("n") }},
		{"Append", func(d *Disk) api.Errno { return d.Append("a", []byte("x")) }},
		{"Append nothing", func(d *Disk) api.Errno { return d.Append("a", nil) }},
		{"Sync", func(d *Disk) api.Errno { return d.Sync("a") }},
		{"Sync what is sure", func(d *Disk) api.Errno { return d.Sync("b") }},
		{"Rename", func(d *Disk) api.Errno { return d.Rename("a", "m") }},
		{"Rename over", func(d *Disk) api.Errno { return d.Rename("a", "b") }},
		{"Rename to itself", func(d *Disk) api.Errno { return d.Rename("a", "a") }},
		{"Remove", func(d *Disk) api.Errno { return d.Remove("a") }},
	}
	for _, s := range steps {
		for n := 1; n < 5; n++ {
			d := made(t, 20, "a", "ab", "b", "cd")
			lay(t, d, "a", "ef")
			d.Fuse(n)
			for range n - 1 {
				must(t, "Sync ahead of "+s.what, d.Sync("b"), api.OK)
			}
			if d.Down() {
				t.Errorf("%s, fuse %d: the power is off too early", s.what, n)
			}
			must(t, s.what, s.call(d), api.ErrDown)
			if !d.Down() {
				t.Errorf("%s, fuse %d: the power is on", s.what, n)
			}
			must(t, s.what+" again", s.call(d), api.ErrDown)
			d.Crash([]int{1})
			holds(t, d, "a", "abe", "b", "cd")
			must(t, s.what+" behind the crash", s.call(d), api.OK)
		}
	}
}

// P4.3: a step that was done burns the fuse, one at a time.
func TestFuseCounts(t *testing.T) {
	calls := []func(d *Disk) api.Errno{
		func(d *Disk) api.Errno { return d.Create("a") },
		func(d *Disk) api.Errno { return d.Append("a", []byte("x")) },
		func(d *Disk) api.Errno { return d.Append("a", nil) },
		func(d *Disk) api.Errno { return d.Sync("a") },
		func(d *Disk) api.Errno { return d.Sync("a") },
		func(d *Disk) api.Errno { return d.Rename("a", "a") },
		func(d *Disk) api.Errno { return d.Rename("a", "b") },
		func(d *Disk) api.Errno { return d.Remove("b") },
	}
	for n := 1; n <= len(calls)+1; n++ {
		d := New(10)
		d.Fuse(n)
		for i, call := range calls {
			want := api.OK
			if i+1 >= n {
				want = api.ErrDown
			}
			must(t, fmt.Sprint("fuse ", n, " step ", i+1), call(d), want)
		}
	}
}

// P4.1, P4.3: a call that is refused is no step, nor is one that only looks.
func TestRefusedIsNoStep(t *testing.T) {
	d := made(t, 5, "a", "abc")
	d.Fuse(1)
	for range 3 {
		must(t, "Create", d.Create("A"), api.ErrArg)
		must(t, "Create", d.Create("a"), api.ErrHave)
		must(t, "Append", d.Append("b", nil), api.ErrNone)
		must(t, "Append", d.Append("a", []byte("xyz")), api.ErrFull)
		must(t, "Sync", d.Sync("b"), api.ErrNone)
		must(t, "Rename", d.Rename("a", ""), api.ErrArg)
		must(t, "Rename", d.Rename("b", "a"), api.ErrNone)
		must(t, "Remove", d.Remove("b"), api.ErrNone)
		must(t, "Spoil", d.Spoil("a", 0, 0), api.OK)
		must(t, "Spoil", d.Spoil("a", 9, 0), api.ErrArg)
		holds(t, d, "a", "abc")
		d.Clone()
	}
	if d.Down() {
		t.Fatal("the power is off")
	}
	must(t, "Sync", d.Sync("a"), api.ErrDown)
}

// P4.3: a fuse takes the place of another; one below 1 takes it away; a crash does, too.
func TestFuseAgain(t *testing.T) {
	d := made(t, 5, "a", "abc")
	for _, n := range []int{0, -1, math.MinInt} {
		d.Fuse(1)
		d.Fuse(n)
		for range 5 {
			must(t, fmt.Sprint("Sync with fuse ", n), d.Sync("a"), api.OK)
		}
	}
	d.Fuse(1)
	d.Fuse(3)
	must(t, "Sync", d.Sync("a"), api.OK)
	must(t, "Sync", d.Sync("a"), api.OK)
	must(t, "Sync", d.Sync("a"), api.ErrDown)
	d.Crash(nil)
	for range 5 {
		must(t, "Sync behind a crash", d.Sync("a"), api.OK)
	}
	d.Fuse(2)
	d.Crash(nil)
	for range 5 {
		must(t, "Sync behind a crash with power", d.Sync("a"), api.OK)
	}
	d.Fuse(math.MaxInt)
	for range 5 {
		must(t, "Sync with a long fuse", d.Sync("a"), api.OK)
	}
}

// P4.3: a fuse that is set while the power is off doesn't wait, and takes none of it back.
func TestFuseWithoutPower(t *testing.T) {
	for _, n := range []int{-1, 0, 1, 2} {
		d := made(t, 5, "a", "abc")
		d.Fuse(1)
		must(t, "Sync", d.Sync("a"), api.ErrDown)
		d.Fuse(n)
		if !d.Down() {
			t.Errorf("Fuse(%d) let the power come again", n)
		}
		must(t, "Sync", d.Sync("a"), api.ErrDown)
		d.Crash(nil)
		for range 5 {
			must(t, "Sync", d.Sync("a"), api.OK)
		}
	}
}

// off is a disk of two files whose power is off.
func off(t *testing.T) *Disk {
	t.Helper()
	d := made(t, 10, "a", "abc", "b", "")
	lay(t, d, "b", "xy")
	d.Fuse(1)
	must(t, "Sync", d.Sync("b"), api.ErrDown)
	return d
}

// P4.1, P4.2, P4.3: with the power off all calls say so, in their order among the errors, and nothing is turned.
func TestDown(t *testing.T) {
	d := off(t)
	must(t, "Create", d.Create("c"), api.ErrDown)
	must(t, "Create what is there", d.Create("a"), api.ErrDown)
	must(t, "Create a wrong name", d.Create("A"), api.ErrArg)
	must(t, "Append", d.Append("a", nil), api.ErrDown)
	must(t, "Append to none", d.Append("c", nil), api.ErrDown)
	must(t, "Append too much", d.Append("a", make([]byte, 99)), api.ErrDown)
	must(t, "Sync", d.Sync("a"), api.ErrDown)
	must(t, "Sync none", d.Sync("c"), api.ErrDown)
	must(t, "Remove", d.Remove("a"), api.ErrDown)
	must(t, "Remove none", d.Remove("c"), api.ErrDown)
	must(t, "Rename", d.Rename("a", "c"), api.ErrDown)
	must(t, "Rename none", d.Rename("c", "d"), api.ErrDown)
	must(t, "Rename to a wrong name", d.Rename("a", "A"), api.ErrArg)
	must(t, "Spoil", d.Spoil("a", 0, 1), api.ErrDown)
	must(t, "Spoil none", d.Spoil("c", -1, 1), api.ErrDown)
	for _, name := range []string{"a", "c", ""} {
		if b, e := d.Read(name, -1, -1); len(b) != 0 || e != api.ErrDown {
			t.Errorf("Read(%q): %q %d", name, b, e)
		}
		if n, e := d.Size(name); n != 0 || e != api.ErrDown {
			t.Errorf("Size(%q): %d %d", name, n, e)
		}
	}
	if len(d.List()) != 0 || d.Used() != 5 || d.Room() != 5 || !d.Down() {
		t.Error(told(d))
	}
	d.Crash([]int{1})
	if d.Down() {
		t.Error("the power is off behind a crash")
	}
	holds(t, d, "a", "abc", "b", "x")
}

// P4.3: of a file's bytes that aren't sure each number may stay.
func TestCrashOneFile(t *testing.T) {
	for _, c := range []struct {
		keep []int
		want string
	}{
		{nil, "ab"}, {[]int{}, "ab"}, {[]int{0}, "ab"}, {[]int{1}, "abc"}, {[]int{2}, "abcd"},
		{[]int{3}, "abcd"}, {[]int{math.MaxInt}, "abcd"}, {[]int{-1}, "ab"}, {[]int{math.MinInt}, "ab"}, {[]int{1, 9}, "abc"},
	} {
		d := made(t, 10, "a", "ab")
		lay(t, d, "a", "c")
		lay(t, d, "a", "d")
		kept := slices.Clone(c.keep)
		d.Crash(c.keep)
		holds(t, d, "a", c.want)
		if !slices.Equal(kept, c.keep) {
			t.Errorf("Crash turned %d into %d", kept, c.keep)
		}
		if d.Room() != 10-len(c.want) {
			t.Errorf("Room: %d", d.Room())
		}
		// What stayed is sure: another crash takes nothing.
		d.Crash(nil)
		holds(t, d, "a", c.want)
		lay(t, d, "a", "xyz")
		holds(t, d, "a", c.want+"xyz")
		d.Crash([]int{1})
		holds(t, d, "a", c.want+"x")
	}
}

// P4.3: the files that count are those with bytes that aren't sure, by name.
func TestCrashManyFiles(t *testing.T) {
	build := func() *Disk {
		d := made(t, 100, "e", "ee", "d", "dd", "b", "bb", "a", "aa", "c", "")
		must(t, "Create", d.Create("f"), api.OK)
		lay(t, d, "e", "123")
		lay(t, d, "b", "456")
		lay(t, d, "c", "789")
		lay(t, d, "a", "")
		return d
	}
	for _, c := range []struct {
		keep    []int
		b, c, e string
	}{
		{nil, "bb", "", "ee"},
		{[]int{1}, "bb4", "", "ee"},
		{[]int{0, 1}, "bb", "7", "ee"},
		{[]int{-5, 0, 2}, "bb", "", "ee12"},
		{[]int{3, 2, 1}, "bb456", "78", "ee1"},
		{[]int{9, 9, 9, 9}, "bb456", "789", "ee123"},
	} {
		d := build()
		d.Crash(c.keep)
		holds(t, d, "a", "aa", "b", c.b, "c", c.c, "d", "dd", "e", c.e, "f", "")
	}
}

// P4.3: files, names and what was removed stay as they are, though nothing was synced.
func TestCrashLeavesNames(t *testing.T) {
	d := made(t, 100, "a", "aa", "b", "bb", "c", "cc")
	must(t, "Remove", d.Remove("a"), api.OK)
	must(t, "Rename", d.Rename("b", "c"), api.OK)
	must(t, "Create", d.Create("n"), api.OK)
	must(t, "Create", d.Create("a"), api.OK)
	lay(t, d, "a", "new")
	d.Crash(nil)
	holds(t, d, "a", "", "c", "bb", "n", "")
}

// Rule 4: what is handed in and what is answered share no memory with the disk.
func TestOwnMemory(t *testing.T) {
	d := made(t, 100, "a", "", "b", "")
	room := []byte("abcdefgh")
	b := room[:4]
	must(t, "Append", d.Append("a", b), api.OK)
	must(t, "Append", d.Append("b", b), api.OK)
	must(t, "Append", d.Append("a", []byte("x")), api.OK)
	if string(room) != "abcdefgh" {
		t.Errorf("Append turned %q", room)
	}
	b[0] = '?'
	holds(t, d, "a", "abcdx", "b", "abcd")
	got, _ := d.Read("a", 1, 2)
	got[0] = '?'
	_ = append(got, '?')
	holds(t, d, "a", "abcdx", "b", "abcd")
	kept, _ := d.Read("a", 0, 9)
	must(t, "Spoil", d.Spoil("a", 0, 1), api.OK)
	if string(kept) != "abcdx" {
		t.Errorf("Spoil turned an answer: %q", kept)
	}
	list := d.List()
	list[0] = "z"
	if again := d.List(); !slices.Equal(again, []string{"a", "b"}) {
		t.Errorf("List: %q", again)
	}
}

// P4.2, rule 5: a nil disk does nothing.
func TestNil(t *testing.T) {
	var d *Disk
	for what, e := range map[string]api.Errno{
		"Create": d.Create("a"), "Append": d.Append("a", nil), "Sync": d.Sync("a"), "Rename": d.Rename("a", "b"),
		"Remove": d.Remove("a"), "Spoil": d.Spoil("a", 0, 1), "Create wrong": d.Create(""), "Rename wrong": d.Rename("", ""),
	} {
		must(t, what, e, api.ErrArg)
	}
	if b, e := d.Read("a", 0, 0); len(b) != 0 || e != api.ErrArg {
		t.Errorf("Read: %q %d", b, e)
	}
	if n, e := d.Size("a"); n != 0 || e != api.ErrArg {
		t.Errorf("Size: %d %d", n, e)
	}
	d.Fuse(1)
	d.Crash([]int{1})
	if len(d.List()) != 0 || d.Used() != 0 || d.Room() != 0 || d.Down() || d.Clone() != nil {
		t.Error("a nil disk answers")
	}
}

// Rule 1: a disk that New didn't make takes all calls, as one without room does.
func TestZeroDisk(t *testing.T) {
	for _, call := range []func(d *Disk) api.Errno{
		func(d *Disk) api.Errno { return d.Create("a") },
		func(d *Disk) api.Errno { return d.Append("a", nil) },
		func(d *Disk) api.Errno { return d.Sync("a") },
		func(d *Disk) api.Errno { return d.Rename("a", "b") },
		func(d *Disk) api.Errno { return d.Remove("a") },
		func(d *Disk) api.Errno { return d.Spoil("a", 0, 1) },
		func(d *Disk) api.Errno { return d.Clone().Create("a") },
		func(d *Disk) api.Errno { d.Crash([]int{1}); return d.Create("a") },
		func(d *Disk) api.Errno { d.Fuse(1); return d.Create("a") },
	} {
		d, n := &Disk{}, New(0)
		must(t, "zero disk", call(d), call(n))
		if whole(d) != whole(n) {
			t.Errorf("zero disk: %s, want %s", whole(d), whole(n))
		}
	}
}

// Example 1, and the third of the whole: what a crash may leave.
func TestExample(t *testing.T) {
	for keep, want := range []string{"ab", "abc", "abcd"} {
		d := made(t, 10, "f", "ab")
		lay(t, d, "f", "cd")
		d.Crash([]int{keep})
		holds(t, d, "f", want)
	}
}
