package file

import (
	"fmt"
	"slices"
	"sort"
	"strings"
	"testing"

	"tailrace/api"
	"tailrace/disk"
	"tailrace/key"
)

// P13.1: the number that the document names.
func TestNumbers(t *testing.T) {
	if Full != 1024 {
		t.Error(Full)
	}
}

// P13.1: a file's bytes, written out.
func TestMakeWrittenOut(t *testing.T) {
	inner := "a\x00\x01\xff\xff\xff\xff\xff\xff\xff\xfc"
	changes := "\x00\x0b\x01" + inner + "x" + "\x00\x00\x00\x00" + "\x01\x00\x00\x00"
	index := "\x00\x0b\x02" + inner + "\x00\x23" + "\x00\x00\x00\x00" + "\x01\x00\x00\x00"
	filter := filterText([]key.Entry{{Key: "a"}})
	ending := "\x23\x00\x00\x00\x00\x00\x00\x00" + "\x24\x00\x00\x00\x00\x00\x00\x00" +
		"\x47\x00\x00\x00\x00\x00\x00\x00" + "\x15\x00\x00\x00\x00\x00\x00\x00" + "\x01\x00\x00\x00\x00\x00\x00\x00"
	want := rec(changes) + rec(index) + rec(filter) + rec(ending)
	b, e := Make([]key.Entry{{Key: "a", Seq: 1, Val: "x"}})
	if string(b) != want || e != api.OK || len(b) != 35+36+21+52 {
		t.Errorf("Make: %x %d, want %x", b, e, want)
	}
}

// P13.1: files of many lists; the list, and the room behind its end, stay as they are.
func TestMakeAsTold(t *testing.T) {
	for what, list := range lists() {
		had := slices.Clone(list)
		b, e := Make(list)
		if string(b) != plain(had) || e != api.OK {
			t.Errorf("Make of %s: %d bytes, %d", what, len(b), e)
		}
		if !slices.Equal(list, had) {
			t.Errorf("Make of %s turned it", what)
		}
	}
	list := sized(50, 100)
	had := slices.Clone(list)
	b, _ := Make(list[:20])
	if string(b) != plain(had[:20]) || !slices.Equal(list, had) {
		t.Error("Make of a list with room behind it")
	}
	clear(list)
	if string(b) != plain(had[:20]) {
		t.Error("Make kept the list")
	}
}

// P13.1: a page ends with the change by which it comes to Full bytes, not ahead of it, and not behind.
func TestMakeFull(t *testing.T) {
	for _, c := range []struct{ n, size, pages int }{
		{1, 1023, 1}, {1, 1024, 1}, {1, 1025, 1}, {2, 1023, 1}, {2, 1024, 2}, {2, 512, 1}, {3, 512, 2}, {3, 511, 1}, {4, 511, 2}, {128, 8, 1}, {129, 8, 2}, {256, 8, 2}, {257, 8, 3},
	} {
		_, x := opened(t, fmt.Sprint(c), plain(sized(c.n, c.size)))
		b, e := Make(sized(c.n, c.size))
		if string(b) != plain(sized(c.n, c.size)) || e != api.OK || x.Pages() != c.pages {
			t.Errorf("Make of %d with %d bytes: %d pages, want %d", c.n, c.size, x.Pages(), c.pages)
		}
	}
	// The bytes of keys and values count, not those that the page has.
	list := []key.Entry{{Key: strings.Repeat("\x00", 128), Val: strings.Repeat("v", 895)}, {Key: "a"}, {Key: "b"}}
	if _, x := opened(t, "noughts", plain(list)); x.Pages() != 2 {
		t.Error("noughts:", x.Pages())
	}
	if b, _ := Make(list); string(b) != plain(list) {
		t.Error("Make of noughts")
	}
}

// unmade tells whether Make answers this error, and nothing beside it.
func unmade(t *testing.T, what string, list []key.Entry, want api.Errno) {
	t.Helper()
	if b, e := Make(list); len(b) != 0 || e != want {
		t.Errorf("Make of %s: %d bytes, %d, want %d", what, len(b), e, want)
	}
}

// refused tells whether Make and Write answer this error, and nothing beside it; no file is made.
func refused(t *testing.T, what string, list []key.Entry, want api.Errno) {
	t.Helper()
	unmade(t, what, list, want)
	d := disk.New(disk.MaxRoom)
	if n, e := Write(d, "f", list); n != 0 || e != want || len(d.List()) != 0 {
		t.Errorf("Write of %s: %d %d, want %d", what, n, e, want)
	}
	// What the list is is asked ahead of what the disk is.
	if n, e := Write(nil, "f", list); n != 0 || e != want {
		t.Errorf("Write of %s on no disk: %d %d, want %d", what, n, e, want)
	}
	d.Fuse(1)
	d.Create("x")
	if n, e := Write(d, "f", list); n != 0 || e != want {
		t.Errorf("Write of %s with the power off: %d %d, want %d", what, n, e, want)
	}
}

// P13.1: lists that no file has, change by change.
func TestMakeRefuses(t *testing.T) {
	ok := key.Entry{Key: "k", Seq: 5, Val: "v"}
	for what, c := range map[string]struct {
		list []key.Entry
		want api.Errno
	}{
		"nil":                       {nil, api.ErrArg},
		"none":                      {[]key.Entry{}, api.ErrArg},
		"no key":                    {[]key.Entry{{Seq: 1}}, api.ErrArg},
		"too great a number":        {[]key.Entry{{Key: "a", Seq: key.MaxSeq + 1}}, api.ErrArg},
		"gone with a value":         {[]key.Entry{{Key: "a", Del: true, Val: "v"}}, api.ErrArg},
		"too long a key":            {[]key.Entry{{Key: strings.Repeat("k", api.MaxKey+1)}}, api.ErrLong},
		"too long a value":          {[]key.Entry{{Key: "a", Val: strings.Repeat("v", api.MaxVal+1)}}, api.ErrLong},
		"behind a right one":        {[]key.Entry{ok, {Key: "z", Val: strings.Repeat("v", api.MaxVal+1)}}, api.ErrLong},
		"keys out of order":         {[]key.Entry{ok, {Key: "j"}}, api.ErrArg},
		"numbers out of order":      {[]key.Entry{ok, {Key: "k", Seq: 6}}, api.ErrArg},
		"one twice":                 {[]key.Entry{ok, ok}, api.ErrArg},
		"one twice, once gone":      {[]key.Entry{ok, {Key: "k", Seq: 5, Del: true}}, api.ErrArg},
		"order first":               {[]key.Entry{ok, {Key: "j"}, {Key: strings.Repeat("z", 129)}}, api.ErrArg},
		"too long first":            {[]key.Entry{ok, {Key: strings.Repeat("z", 129)}, {Key: "j"}}, api.ErrLong},
		"too long and out of order": {[]key.Entry{ok, {Key: strings.Repeat("a", 129)}}, api.ErrLong},
		"far behind":                {append(sized(400, 30), key.Entry{Key: "a"}), api.ErrArg},
	} {
		refused(t, what, c.list, c.want)
	}
}

// counted is so many changes of keys of so many bytes, that are unlike from their fronts on.
func counted(n, size int) []key.Entry {
	var list []key.Entry
	b := make([]byte, size)
	for i := range n {
		b[0], b[1], b[2] = byte(i>>16), byte(i>>8), byte(i)
		list = append(list, key.Entry{Key: string(b)})
	}
	return list
}

// P13.1: more pages than one page has the Inners of; more keys than a filter has room for; the page of Inners is asked first.
func TestMakeBounds(t *testing.T) {
	// A nought has two bytes in an Inner, so that few pages have many bytes.
	var wide []key.Entry
	for i := range 1000 {
		k := string([]byte{byte(i >> 8), byte(i)}) + strings.Repeat("\x00", api.MaxKey-2)
		wide = append(wide, key.Entry{Key: k, Val: strings.Repeat("v", Full)})
	}
	// Behind the pairs stand the places of every eighth one, and their count.
	fits := sort.Search(len(wide), func(n int) bool {
		return len(draftOf(wide[:n]).indexText())-4*((n+7)/8)-4 > 1<<18
	}) - 1
	if fits >= len(wide)-1 {
		t.Fatal("all fit")
	}
	if b, e := Make(wide[:fits]); e != api.OK || string(b) != plain(wide[:fits]) {
		t.Errorf("Make of %d pages: %d", fits, e)
	}
	refused(t, "a page more", wide[:fits+1], api.ErrLong)

	const most = 838860
	b, e := Make(counted(most, 3))
	if e != api.OK {
		t.Fatalf("Make of %d keys: %d", most, e)
	}
	d := holding(t, string(b))
	if x, e := Open(d, "f"); e != api.OK || x.Count() != most {
		t.Errorf("Open of %d keys: %d", most, e)
	}
	unmade(t, "a key more", counted(most+1, 3), api.ErrMany)
	unmade(t, "a key more, and too many pages", counted(most+1, 24), api.ErrLong)
	// A key with many changes is one key.
	same := append(counted(most-1, 3), of("z", make([]string, 100)...)...)
	if _, e := Make(same); e != api.OK {
		t.Errorf("Make of a key with many changes: %d", e)
	}
}

// all is what the files of a disk have, and what of them is sure.
func all(d *disk.Disk) string {
	s := ""
	sure := d.Clone()
	sure.Crash(nil)
	for _, name := range d.List() {
		b, _ := d.Read(name, 0, disk.MaxRoom)
		left, _ := sure.Size(name)
		s += fmt.Sprintf("%s:%q:%d ", name, b, left)
	}
	return s
}

// P13.1: the file is there, of just these bytes, and all of them are sure.
func TestWrite(t *testing.T) {
	for what, list := range lists() {
		d := disk.New(len(plain(list)))
		n, e := Write(d, "f.1", list)
		if n != len(plain(list)) || e != api.OK {
			t.Errorf("Write of %s: %d %d", what, n, e)
		}
		d.Crash(nil)
		if b, e := d.Read("f.1", 0, disk.MaxRoom); string(b) != plain(list) || e != api.OK {
			t.Errorf("Write of %s: %d bytes, %d", what, len(b), e)
		}
	}
}

// P13.1: what Write refuses, in its order; nothing is turned.
func TestWriteRefuses(t *testing.T) {
	list := sized(30, 100)
	size := len(plain(list))
	for what, c := range map[string]struct {
		room int
		name string
		want api.Errno
	}{
		"no room":                   {size + 2, "f", api.ErrFull},
		"no room, a name it hasn't": {size + 2, "F", api.ErrFull},
		"no room, a name that is":   {size + 2, "x", api.ErrFull},
		"no name":                   {size + 3, "", api.ErrArg},
		"a name it can't have":      {size + 3, "F", api.ErrArg},
		"too long a name":           {size + 3, strings.Repeat("f", api.MaxName+1), api.ErrArg},
		"a name that is there":      {size + 3, "x", api.ErrHave},
		"all right":                 {size + 3, strings.Repeat("f", api.MaxName), api.OK},
	} {
		d := disk.New(c.room)
		must(t, what, d.Create("x"), api.OK)
		must(t, what, d.Append("x", []byte("abc")), api.OK)
		had := all(d)
		n, e := Write(d, c.name, list)
		if e != c.want || e == api.OK && n != size || e != api.OK && (n != 0 || all(d) != had) {
			t.Errorf("%s: %d %d, want %d; %s", what, n, e, c.want, all(d))
		}
	}
	if n, e := Write(nil, "f", list); n != 0 || e != api.ErrArg {
		t.Errorf("Write on no disk: %d %d", n, e)
	}
	d := disk.New(1)
	d.Fuse(1)
	d.Create("x")
	if n, e := Write(d, "F", list); n != 0 || e != api.ErrDown {
		t.Errorf("Write with the power off: %d %d", n, e)
	}
}

// P13.1: the power goes at each of Write's steps.
func TestWritePowerGoes(t *testing.T) {
	list := sized(30, 100)
	text := plain(list)
	for fuse, want := range []int{0, 0, 0, len(text), len(text)} {
		if fuse == 0 {
			continue
		}
		d := disk.New(disk.MaxRoom)
		d.Fuse(fuse)
		n, e := Write(d, "f", list)
		down := api.ErrDown
		if fuse == 4 {
			down = api.OK
		}
		if n != want || e != down {
			t.Errorf("fuse %d: %d %d", fuse, n, e)
		}
		// What isn't sure may be gone: no part of a file is taken for it.
		for _, keep := range []int{0, 1, len(text) / 2, len(text) - 1, len(text)} {
			c := d.Clone()
			c.Crash([]int{keep})
			b, _ := c.Read("f", 0, disk.MaxRoom)
			if !strings.HasPrefix(text, string(b)) {
				t.Errorf("fuse %d keep %d: %q", fuse, keep, b)
			}
			x, e := Open(c, "f")
			if string(b) == text != (e == api.OK) || e != api.OK && x != nil {
				t.Errorf("fuse %d keep %d: Open %d", fuse, keep, e)
			}
		}
	}
}
