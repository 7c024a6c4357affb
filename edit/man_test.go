package edit

import (
	"fmt"
	"slices"
	"strings"
	"testing"

	"tailrace/api"
	"tailrace/disk"
	"tailrace/num"
	"tailrace/record"
	"tailrace/wal"
)

// rec is the record of some bytes.
func rec(data string) string {
	b, e := record.Put(nil, []byte(data))
	if e != api.OK {
		panic("a record that is too long")
	}
	return string(b)
}

// edits is the records of some edits, one behind the other.
func edits(list ...Edit) string {
	s := ""
	for _, x := range list {
		s += rec(string(x.Encode()))
	}
	return s
}

// now is the bytes of Now for a number.
func now(n uint64) string {
	return rec(string(num.Put(nil, n)))
}

// holding is a disk with files of these bytes, by name and text in turn, all of them sure.
func holding(t *testing.T, list ...string) *disk.Disk {
	t.Helper()
	d := disk.New(1 << 17)
	for i := 0; i < len(list); i += 2 {
		if d.Create(list[i]) != api.OK || d.Append(list[i], []byte(list[i+1])) != api.OK || d.Sync(list[i]) != api.OK {
			t.Fatal("laying", list[i])
		}
	}
	return d
}

// all is the files of a disk, whether its power is on or off, their bytes, and how many of these are sure.
func all(d *disk.Disk) string {
	s := ""
	whole, sure := d.Clone(), d.Clone()
	if d.Down() {
		whole.Crash(slices.Repeat([]int{disk.MaxRoom}, 20))
	}
	sure.Crash(nil)
	for _, name := range whole.List() {
		b, _ := whole.Read(name, 0, disk.MaxRoom)
		n, _ := sure.Size(name)
		s += fmt.Sprintf("%s:%x:%d ", name, b, n)
	}
	return s
}

// files is what all has to be of files that are sure, by name and text in turn.
func files(list ...string) string {
	s := ""
	for i := 0; i < len(list); i += 2 {
		s += fmt.Sprintf("%s:%x:%d ", list[i], list[i+1], len(list[i+1]))
	}
	return s
}

// loads tells whether Load answers a version and a number, and turns nothing on the disk.
func loads(t *testing.T, what string, d *disk.Disk, want Version, number int) *Man {
	t.Helper()
	had := all(d)
	m, e := Load(d)
	if e != api.OK || told(m.Version()) != told(want) || m.Number() != number {
		t.Fatalf("%s: Load: %s %d %d, want %s %d", what, told(m.Version()), m.Number(), e, told(want), number)
	}
	if all(d) != had {
		t.Errorf("%s: Load turned the disk", what)
	}
	return m
}

// unloaded tells whether Load answers an error, and nothing beside it.
func unloaded(t *testing.T, what string, d *disk.Disk, want api.Errno) {
	t.Helper()
	if m, e := Load(d); m != nil || e != want {
		t.Errorf("%s: Load: %v %d, want %d", what, m != nil, e, want)
	}
}

// Edits of a list, and what they make one by one.
var (
	script = []Edit{
		{Add: []Meta{{Num: 1, Low: "a", High: "f", Size: 10}}, Next: 2, Log: 3, Seq: 9},
		{Add: []Meta{{Num: 2, Level: 1, Low: "c", High: "d"}, {Num: 3, Level: 1, Low: "g", High: "h"}}, Next: 11},
		{Del: []int{1, 3}, Add: []Meta{{Num: 10, Level: 2, Low: "b", High: "b"}}, Seq: 12},
	}
	states = []Version{
		{Log: 1, Next: 1},
		{Files: []Meta{{Num: 1, Low: "a", High: "f", Size: 10}}, Log: 3, Next: 2, Seq: 9},
		{Files: []Meta{{Num: 1, Low: "a", High: "f", Size: 10}, {Num: 2, Level: 1, Low: "c", High: "d"}, {Num: 3, Level: 1, Low: "g", High: "h"}}, Log: 3, Next: 11, Seq: 9},
		{Files: []Meta{{Num: 2, Level: 1, Low: "c", High: "d"}, {Num: 10, Level: 2, Low: "b", High: "b"}}, Log: 3, Next: 11, Seq: 12},
	}
)

// P15.4: lists that are written out are read.
func TestLoad(t *testing.T) {
	loads(t, "an empty disk", disk.New(0), First(), 0)
	loads(t, "no Now", holding(t, "man.1", edits(script...), Soon, now(1)), First(), 0)
	for n := 1; n <= len(script); n++ {
		d := holding(t, Now, now(7), "man.7", edits(script[:n]...), "man.8", "x", "man.1", "y", "file.1", "")
		loads(t, fmt.Sprint(n, " edits"), d, states[n], 7)
	}
	loads(t, "of number 1", holding(t, Now, now(1), "man.1", edits(Edit{})), First(), 1)
	loads(t, "of the greatest", holding(t, Now, now(MostNum), "man.1073741824", edits(script[0])), states[1], MostNum)
}

// P15.4: what is behind the last whole record says nothing, whatever a crash left of it.
func TestLoadCut(t *testing.T) {
	text := edits(script...)
	ends := map[int]int{}
	for n := range script {
		ends[len(edits(script[:n+1]...))] = n + 1
	}
	count := 0
	for n := range len(text) + 1 {
		count = max(count, ends[n])
		d := holding(t, Now, now(2), "man.2", text[:n])
		if count == 0 {
			unloaded(t, fmt.Sprint("cut to ", n), d, api.ErrBad)
		} else {
			loads(t, fmt.Sprint("cut to ", n), d, states[count], 2)
		}
	}
	if count != len(script) {
		t.Error(count)
	}
}

// P15.4: all that Load refuses.
func TestLoadRefuses(t *testing.T) {
	list := edits(script...)
	unloaded(t, "no disk", nil, api.ErrArg)
	d := holding(t, Now, now(1), "man.1", list)
	d.Fuse(1)
	d.Create("x")
	unloaded(t, "the power off", d, api.ErrDown)
	d = disk.New(9)
	d.Fuse(1)
	d.Create("x")
	unloaded(t, "the power off, and nothing there", d, api.ErrDown)
	for what, s := range map[string]string{
		"nothing":              "",
		"a record of nothing":  rec(""),
		"twice":                now(1) + now(1),
		"a byte behind":        now(1) + "\x00",
		"a byte behind within": rec("\x01\x00"),
		"no record":            "\x01",
		"number 0":             now(0),
		"too great a number":   now(MostNum + 1),
		"far too great":        now(1 << 63),
		"beyond 64 bits":       rec(strings.Repeat("\xff", 10)),
		"a number cut short":   rec("\x81"),
		"a longer form":        rec("\x81\x00"),
		"another list":         now(2),
	} {
		unloaded(t, "Now with "+what, holding(t, Now, s, "man.1", list, "man.0", list, "man.1073741825", list), api.ErrBad)
	}
	for n := range len(now(1)) {
		unloaded(t, fmt.Sprint("Now cut to ", n), holding(t, Now, now(1)[:n], "man.1", list), api.ErrBad)
	}
	for what, s := range map[string]string{
		"no record":               "",
		"no whole one":            list[:11],
		"a record of nothing":     rec(""),
		"not an edit":             rec("abc"),
		"an edit and a byte":      rec(string(script[0].Encode()) + "\x00"),
		"not an edit behind":      list + rec("abc"),
		"one that can't be":       edits(script[1], script[2]),
		"one that can't, behind":  edits(script[0], script[2]),
		"one twice":               edits(script[0], script[0]),
		"one wrong, one whole":    edits(Edit{Del: []int{1}}, script[0]),
		"two of number 1":         edits(Edit{Next: 2, Add: []Meta{{Num: 1, Low: "a", High: "a"}, {Num: 1, Low: "a", High: "a"}}}),
		"too many":                edits(Edit{Next: 2000, Add: many(MostFiles)}, Edit{Add: []Meta{meta(1500, 0, "a", "a")}}),
		"a record of noughts":     list + strings.Repeat("\x00", 12),
		"too great a Log":         edits(Edit{Log: wal.MaxPart + 1}),
		"a record that isn't one": list + strings.Repeat("a", 30),
	} {
		unloaded(t, "a list with "+what, holding(t, Now, now(1), "man.1", s), api.ErrBad)
	}
	unloaded(t, "no list", holding(t, Now, now(1), "man.2", list, "man.01", list), api.ErrBad)
}

// P15.4: a byte that is turned, anywhere, is told.
func TestLoadTurned(t *testing.T) {
	list := edits(script...)
	for name, s := range map[string]string{Now: now(1), "man.1": list} {
		for at := range s {
			for _, bits := range []byte{1, 0x80, 0xff, byte(at) | 4} {
				d := holding(t, Now, now(1), "man.1", list)
				must(t, "Spoil", d.Spoil(name, at, bits), api.OK)
				unloaded(t, fmt.Sprint(name, " turned at ", at), d, api.ErrBad)
			}
		}
	}
}

// does tells whether a Do has no error, and makes a version; and what Load answers then.
func does(t *testing.T, what string, m *Man, d *disk.Disk, x Edit, want Version, number int) {
	t.Helper()
	must(t, what+": Do", m.Do(x), api.OK)
	if told(m.Version()) != told(want) || m.Number() != number {
		t.Errorf("%s: %s %d, want %s %d", what, told(m.Version()), m.Number(), told(want), number)
	}
	again := loads(t, what, d, want, number)
	if !slices.Equal(m.Named(), again.Named()) {
		t.Errorf("%s: %q, and %q again", what, m.Named(), again.Named())
	}
}

// P15.5: a new disk, edit by edit: what stands on it, all of it sure, and which names count.
func TestDo(t *testing.T) {
	d := disk.New(1 << 16)
	m := loads(t, "a new disk", d, First(), 0)
	if n := m.Named(); len(n) != 0 {
		t.Error("Named:", n)
	}
	named := [][]string{{"file.1", "man.1", "now"}, {"file.1", "file.2", "file.3", "man.1", "now"}, {"file.10", "file.2", "man.1", "now"}}
	for i, x := range script {
		does(t, fmt.Sprint("edit ", i), m, d, x, states[i+1], 1)
		list := edits(states[1].All()) + edits(script[1:i+1]...)
		if all(d) != files("man.1", list, Now, now(1)) {
			t.Errorf("edit %d: %s", i, all(d))
		}
		if got := m.Named(); !slices.Equal(got, named[i]) {
			t.Errorf("edit %d: Named: %q", i, got)
		}
	}
	// Who loads it makes a list of its own, of all that there is, and goes on with that.
	m = loads(t, "again", d, states[3], 1)
	old := edits(states[1].All(), script[1], script[2])
	x, y := Edit{Log: 5}, Edit{Del: []int{2}}
	v := states[3]
	v.Log = 5
	does(t, "a new list", m, d, x, v, 2)
	if all(d) != files("man.1", old, "man.2", edits(v.All()), Now, now(2)) {
		t.Error("a new list:", all(d))
	}
	first := edits(v.All())
	v.Files = v.Files[1:]
	does(t, "gone on", m, d, y, v, 2)
	if all(d) != files("man.1", old, "man.2", first+edits(y), Now, now(2)) {
		t.Error("gone on:", all(d))
	}
	if got := m.Named(); !slices.Equal(got, []string{"file.10", "man.2", "now"}) {
		t.Errorf("Named: %q", got)
	}
}

// P15.5: what stands in the way of a new list is removed; nothing else is.
func TestDoRemoves(t *testing.T) {
	d := holding(t, "man.1", "one", "man.2", "two", Soon, "three", "file.1", "x", "log.1", "y")
	m := loads(t, "no Now", d, First(), 0)
	does(t, "list 1", m, d, script[0], states[1], 1)
	if all(d) != files("file.1", "x", "log.1", "y", "man.1", edits(script[0]), "man.2", "two", Now, now(1)) {
		t.Error(all(d))
	}
	m = loads(t, "again", d, states[1], 1)
	does(t, "list 2", m, d, script[1], states[2], 2)
	if all(d) != files("file.1", "x", "log.1", "y", "man.1", edits(script[0]), "man.2", edits(states[2].All()), Now, now(2)) {
		t.Error(all(d))
	}
}

// P15.5: an edit that says nothing, or says it by numbers below 0, is one.
func TestDoNothing(t *testing.T) {
	d := disk.New(1 << 16)
	m := loads(t, "new", d, First(), 0)
	does(t, "nothing", m, d, Edit{}, First(), 1)
	does(t, "nothing again", m, d, Edit{}, First(), 1)
	v := First()
	v.Next = 5
	does(t, "below 0", m, d, Edit{Log: -1, Next: 5}, v, 1)
	does(t, "far below 0", m, d, Edit{Log: -1 << 63, Next: -5}, v, 1)
	if n, _ := d.Size("man.1"); n != len(edits(First().All(), Edit{}, Edit{Next: 5}, Edit{})) {
		t.Error("man.1:", n)
	}
}

// refuses tells whether a Do answers an error, and turns nothing.
func refuses(t *testing.T, what string, m *Man, d *disk.Disk, x Edit, want api.Errno) {
	t.Helper()
	had, v, n, names := all(d), told(m.Version()), m.Number(), m.Named()
	must(t, what, m.Do(x), want)
	if all(d) != had || told(m.Version()) != v || m.Number() != n || !slices.Equal(m.Named(), names) {
		t.Errorf("%s: turned: %s", what, all(d))
	}
}

// P15.5: what can't be applied is refused ahead of all else.
func TestDoRefuses(t *testing.T) {
	wrong := map[string]Edit{
		"goes that isn't there": {Del: []int{7}},
		"Log less":              {Log: 2},
		"Next less":             {Next: 1},
		"Seq less":              {Seq: 8},
		"comes at Next":         {Add: []Meta{meta(2, 0, "a", "b")}},
		"comes twice":           {Next: 9, Add: []Meta{meta(1, 0, "a", "b")}},
	}
	tooMany := Edit{Next: 2000, Add: many(MostFiles)}
	tooMany.Add[0].Num = 1999
	for _, one := range []string{"made", "loaded", "full", "down"} {
		d := disk.New(1 << 16)
		m, _ := Load(d)
		must(t, "Do", m.Do(script[0]), api.OK)
		switch one {
		case "loaded":
			m, _ = Load(d)
		case "full":
			d.Create("x")
			d.Append("x", make([]byte, d.Room()))
		case "down":
			d.Fuse(1)
			d.Create("x")
		}
		for what, x := range wrong {
			refuses(t, one+": "+what, m, d, x, api.ErrArg)
		}
		refuses(t, one+": too many", m, d, tooMany, api.ErrMany)
	}
}

// P15.5: the power off; no more numbers; which of these comes first.
func TestDoDown(t *testing.T) {
	d := holding(t, Now, now(MostNum), Name(MostNum), edits(script[0]))
	m := loads(t, "the greatest", d, states[1], MostNum)
	refuses(t, "one more", m, d, script[1], api.ErrMany)
	refuses(t, "one more than there may be, of what can't be applied", m, d, script[2], api.ErrArg)
	d.Create("x")
	d.Append("x", make([]byte, d.Room()))
	refuses(t, "one more, on a full disk", m, d, script[1], api.ErrMany)
	d.Fuse(1)
	d.Create("y")
	refuses(t, "the power off", m, d, script[1], api.ErrDown)

	d = holding(t, Now, now(MostNum-1), Name(MostNum-1), edits(script[0]))
	m = loads(t, "the last but one", d, states[1], MostNum-1)
	does(t, "the last", m, d, script[1], states[2], MostNum)
	does(t, "gone on", m, d, script[2], states[3], MostNum)
}

// P15.5: just as much room as a new list, or an edit, needs; what is in the way counts as it stands.
func TestDoFull(t *testing.T) {
	first, next := len(edits(states[1].All()))+len(now(1)), len(edits(script[1]))
	for less := range 3 {
		d := disk.New(first + next - less)
		d.Create(Soon)
		d.Append(Soon, make([]byte, next))
		m, _ := Load(d)
		if less > 0 {
			refuses(t, "no room for a list", m, d, script[0], api.ErrFull)
			continue
		}
		must(t, "room for a list", m.Do(script[0]), api.OK)
		if d.Room() != next {
			t.Error("room", d.Room())
		}
		must(t, "room for an edit", m.Do(script[1]), api.OK)
		refuses(t, "no room for an edit", m, d, script[2], api.ErrFull)
		loads(t, "full", d, states[2], 1)
	}
	d := disk.New(first + next - 1)
	m, _ := Load(d)
	must(t, "room for a list", m.Do(script[0]), api.OK)
	refuses(t, "no room for an edit by a byte", m, d, script[1], api.ErrFull)
	does(t, "a smaller one", m, d, Edit{}, states[1], 1)
	// Behind a list that had no room the next one is tried again.
	m, _ = Load(d)
	refuses(t, "no room for list 2", m, d, script[1], api.ErrFull)
	refuses(t, "no room for list 2, either", m, d, Edit{}, api.ErrFull)
	d.Remove("man.1")
	does(t, "room again", m, d, Edit{}, states[1], 2)
}

// P15.5: the disk's error, if the list that this Man made isn't there.
func TestDoListGone(t *testing.T) {
	d := disk.New(1 << 16)
	m, _ := Load(d)
	must(t, "Do", m.Do(script[0]), api.OK)
	d.Remove("man.1")
	refuses(t, "the list is gone", m, d, script[1], api.ErrNone)
}

// P15.5: a Man is of what Load read: no Man, and one that Load didn't make, have nothing.
func TestNil(t *testing.T) {
	for what, m := range map[string]*Man{"nil": nil, "zero": {}} {
		must(t, what, m.Do(Edit{Log: 1, Next: 1}), api.ErrArg)
		if told(m.Version()) != told(Version{}) || m.Number() != 0 || len(m.Named()) != 0 {
			t.Error(what, told(m.Version()), m.Number(), m.Named())
		}
	}
}

// P15.5: with the power off Version, Number and Named are what they were.
func TestAskedDown(t *testing.T) {
	d := disk.New(1 << 16)
	m, _ := Load(d)
	must(t, "Do", m.Do(script[0]), api.OK)
	d.Fuse(1)
	d.Create("x")
	if told(m.Version()) != told(states[1]) || m.Number() != 1 || len(m.Named()) != 3 {
		t.Error(told(m.Version()), m.Number(), m.Named())
	}
}

// P15.5: what is handed in isn't kept or turned; what is answered is new.
func TestManShares(t *testing.T) {
	d := disk.New(1 << 16)
	m, _ := Load(d)
	x := Edit{Add: []Meta{meta(2, 0, "a", "f"), meta(1, 0, "b", "c"), meta(9, 0, "z", "z")}, Next: 10}
	had := shown(x)
	x.Add = x.Add[:2]
	must(t, "Do", m.Do(x), api.OK)
	x.Add = x.Add[:3]
	if shown(x) != had {
		t.Error("Do turned the edit:", shown(x))
	}
	v := told(m.Version())
	clear(x.Add)
	clear(m.Version().Files)
	clear(m.Named())
	if told(m.Version()) != v || !slices.Equal(m.Named(), []string{"file.1", "file.2", "man.1", "now"}) {
		t.Error("shared:", told(m.Version()), m.Named())
	}
	loads(t, "again", d, m.Version(), 1)
}
