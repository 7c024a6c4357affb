package cursor

import (
	"encoding/binary"
	"fmt"
	"slices"
	"strings"
	"testing"

	"tailrace/api"
	"tailrace/disk"
	"tailrace/file"
	"tailrace/key"
)

// dice is numbers with no pattern to speak of, the same ones in each run.
type dice uint64

func (d *dice) roll(n int) int {
	*d = *d*6364136223846793005 + 1442695040888963407
	return int((uint64(*d) >> 33) % uint64(n))
}

// must tells whether a call answered the error that is wanted.
func must(t *testing.T, what string, got, want api.Errno) {
	t.Helper()
	if got != want {
		t.Errorf("%s: %d, want %d", what, got, want)
	}
}

// filed is a file of changes, and the disk that it stands on.
func filed(t *testing.T, list []key.Entry) (*disk.Disk, *file.File) {
	t.Helper()
	d := disk.New(disk.MaxRoom)
	if _, e := file.Write(d, "f", list); e != api.OK {
		t.Fatal("Write", e)
	}
	f, e := file.Open(d, "f")
	if e != api.OK {
		t.Fatal("Open", e)
	}
	return d, f
}

// sized is so many changes of one key each, four of which make a page.
func sized(n int) []key.Entry {
	var list []key.Entry
	for i := range n {
		k := fmt.Sprintf("k%03d", i)
		list = append(list, key.Entry{Key: k, Seq: uint64(i + 1), Val: strings.Repeat("v", 252)})
	}
	return list
}

// wide is a file of so many pages of four changes each, of which some have a byte turned.
func wide(t *testing.T, pages int, turned ...int) (*disk.Disk, *file.File, []key.Entry) {
	t.Helper()
	list := sized(4 * pages)
	d, f := filed(t, list)
	if f.Pages() != pages {
		t.Fatal(f.Pages())
	}
	for _, i := range turned {
		must(t, "Spoil", d.Spoil("f", pagesSize(t, list[:4*i])+20, 1), api.OK)
	}
	return d, f, list
}

// pagesSize is how many bytes the pages of changes have in a file.
func pagesSize(t *testing.T, list []key.Entry) int {
	t.Helper()
	if len(list) == 0 {
		return 0
	}
	b, e := file.Make(list)
	if e != api.OK {
		t.Fatal("Make", e)
	}
	// What the ending tells first is where the pages end.
	return int(binary.LittleEndian.Uint64(b[len(b)-40:]))
}

// rolled is changes in order, of few keys, so that those of several lists are alike now and then.
func rolled(r *dice, n int) []key.Entry {
	var list []key.Entry
	for range n {
		x := key.Entry{Key: strings.Repeat("\x00a\xff"[r.roll(3):][:1], 1+r.roll(3)), Seq: uint64(r.roll(12))}
		switch r.roll(5) {
		case 0, 1:
			x.Del = true
		case 2:
			x.Val = strings.Repeat("v", r.roll(700))
		default:
			x.Val = fmt.Sprint(r.roll(1000))
		}
		list = append(list, x)
	}
	slices.SortStableFunc(list, key.Entry.Cmp)
	return list
}

// apart is changes in order, of those of one key and number one alone.
func apart(list []key.Entry) []key.Entry {
	return slices.CompactFunc(slices.Clone(list), func(x, y key.Entry) bool { return x.Cmp(y) == 0 })
}

// grown is a cursor of any kind, and what it goes through.
func grown(t *testing.T, r *dice, deep int) (*Cursor, []key.Entry) {
	t.Helper()
	kind := r.roll(4)
	if deep == 0 {
		kind = r.roll(2)
	}
	switch kind {
	case 0:
		list := rolled(r, r.roll(12))
		return List(list), list
	case 1:
		list := apart(rolled(r, 1+r.roll(30)))
		_, f := filed(t, list)
		return File(f), list
	}
	var all []*Cursor
	var list []key.Entry
	for range r.roll(5) {
		c, of := grown(t, r, deep-1)
		all, list = append(all, c), append(list, of...)
	}
	// Of alike ones those of the earlier cursor come first: so the order of what stood in order stays.
	slices.SortStableFunc(list, key.Entry.Cmp)
	return Many(all...), list
}

// live is what Live has to answer of what comes next.
func live(list []key.Entry, from, to string, seq uint64, most int) []key.Entry {
	newest := map[string]key.Entry{}
	var keys []string
	for _, x := range list {
		if x.Seq > seq || x.Key < from || to != "" && x.Key >= to {
			continue
		}
		y, ok := newest[x.Key]
		if !ok {
			keys = append(keys, x.Key)
		}
		if !ok || x.Seq > y.Seq {
			newest[x.Key] = x
		}
	}
	slices.Sort(keys)
	var got []key.Entry
	for _, k := range keys {
		if x := newest[k]; !x.Del && len(got) < most {
			got = append(got, x)
		}
	}
	return got
}
