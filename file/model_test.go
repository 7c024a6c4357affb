package file

import (
	"encoding/binary"
	"fmt"
	"hash/crc32"
	"slices"
	"strings"
	"testing"

	"tailrace/api"
	"tailrace/disk"
	"tailrace/key"
	"tailrace/page"
)

// dice is numbers with no pattern to speak of, the same ones in each run.
type dice uint64

func (d *dice) roll(n int) int {
	*d = *d*6364136223846793005 + 1442695040888963407
	return int((uint64(*d) >> 33) % uint64(n))
}

// must tells whether a call answered the error that is wanted.
func must(t *testing.T, what string, got, want api.Errno) {
	t.Helper()
	if got != want {
		t.Errorf("%s: %d, want %d", what, got, want)
	}
}

// little is a number's four bytes, the lowest first.
func little(n int) string {
	return string(binary.LittleEndian.AppendUint32(nil, uint32(n)))
}

// sum and mask are the checks as the document tells them, by the library's CRC.
func sum(s string) uint32 {
	return crc32.Checksum([]byte(s), crc32.MakeTable(crc32.Castagnoli))
}

func mask(n uint32) uint32 {
	return (n>>15 | n<<17) + 0xa282ead8
}

// rec is the record of a text, as the document tells it.
func rec(s string) string {
	length := little(len(s))
	return length + little(int(mask(sum(length)))) + little(int(mask(sum(s)))) + s
}

// laid is a number as layer 1 lays it.
func laid(n int) string {
	return string(binary.AppendUvarint(nil, uint64(n)))
}

// pageText is a page's bytes as the document tells them, of pairs that needn't stand in order.
func pageText(list []page.Pair) string {
	var b, places strings.Builder
	for i, x := range list {
		same := 0
		if i%8 == 0 {
			places.WriteString(little(b.Len()))
		} else {
			for same < min(len(x.Name), len(list[i-1].Name)) && list[i-1].Name[same] == x.Name[same] {
				same++
			}
		}
		b.WriteString(laid(same) + laid(len(x.Name)-same) + laid(len(x.Val)) + x.Name[same:] + x.Val)
	}
	return b.String() + places.String() + little((len(list)+7)/8)
}

// pairs is changes as a page has them.
func pairs(list []key.Entry) []page.Pair {
	var all []page.Pair
	for _, x := range list {
		all = append(all, page.Pair{Name: x.Inner(), Val: x.Val})
	}
	return all
}

// filterText is a filter's bytes as the document tells them, of keys in order, each of them once.
func filterText(list []key.Entry) string {
	var keys []string
	for _, x := range list {
		keys = append(keys, x.Key)
	}
	keys = slices.Compact(keys)
	bits := make([]byte, max(8, (10*len(keys)+7)/8))
	for _, k := range keys {
		a := sum(k)
		step := mask(a) | 1
		for range 6 {
			bit := uint64(a) * uint64(8*len(bits)) >> 32
			bits[bit/8] |= 1 << (bit % 8)
			a += step
		}
	}
	return "\x06" + string(bits)
}

// parted is changes page by page.
func parted(list []key.Entry) [][]key.Entry {
	var all [][]key.Entry
	var one []key.Entry
	size := 0
	for _, x := range list {
		one = append(one, x)
		size += len(x.Key) + len(x.Val)
		if size >= 1024 {
			all, one, size = append(all, one), nil, 0
		}
	}
	if len(one) > 0 {
		all = append(all, one)
	}
	return all
}

// draft is a file's parts, each of which may be made another one; what is left empty is made of the others, as the document tells it.
type draft struct {
	pages   []string
	names   []string // in the page of Inners
	vals    []string // likewise
	index   string
	between string // bytes behind the page of Inners
	filter  string
	last    string // bytes ahead of the ending
	count   int
	ending  []uint64
}

// draftOf is the draft of changes.
func draftOf(list []key.Entry) draft {
	d := draft{filter: filterText(list), count: len(list)}
	for _, one := range parted(list) {
		d.pages = append(d.pages, pageText(pairs(one)))
		d.names = append(d.names, one[len(one)-1].Inner())
	}
	return d
}

// indexText is the bytes of the page of Inners.
func (d draft) indexText() string {
	if d.index != "" {
		return d.index
	}
	var list []page.Pair
	at := 0
	for i, name := range d.names {
		size := len(rec(d.pages[i]))
		val := laid(at) + laid(size)
		if d.vals != nil {
			val = d.vals[i]
		}
		list = append(list, page.Pair{Name: name, Val: val})
		at += size
	}
	return pageText(list)
}

// pagesSize is how many bytes the first n pages' records have.
func (d draft) pagesSize(n int) int {
	size := 0
	for _, s := range d.pages[:n] {
		size += len(rec(s))
	}
	return size
}

// ends is the numbers that the ending tells of the parts.
func (d draft) ends() []uint64 {
	if d.ending != nil {
		return d.ending
	}
	at, index := d.pagesSize(len(d.pages)), len(rec(d.indexText()))
	var list []uint64
	for _, n := range []int{at, index, at + index + len(d.between), len(rec(d.filter)), d.count} {
		list = append(list, uint64(n))
	}
	return list
}

// text is the file's bytes.
func (d draft) text() string {
	var b strings.Builder
	for _, s := range d.pages {
		b.WriteString(rec(s))
	}
	b.WriteString(rec(d.indexText()) + d.between + rec(d.filter) + d.last)
	var end []byte
	for _, n := range d.ends() {
		end = binary.LittleEndian.AppendUint64(end, n)
	}
	return b.String() + rec(string(end))
}

// plain is the bytes of a file of changes, as the document tells them.
func plain(list []key.Entry) string {
	return draftOf(list).text()
}

// holding is a disk with the file f of these bytes, that are sure.
func holding(t *testing.T, text string) *disk.Disk {
	t.Helper()
	d := disk.New(disk.MaxRoom)
	must(t, "Create", d.Create("f"), api.OK)
	must(t, "Append", d.Append("f", []byte(text)), api.OK)
	must(t, "Sync", d.Sync("f"), api.OK)
	return d
}

// opened is the file f of these bytes, that are one's.
func opened(t *testing.T, what, text string) (*disk.Disk, *File) {
	t.Helper()
	d := holding(t, text)
	x, e := Open(d, "f")
	if e != api.OK || x == nil {
		t.Fatalf("Open of %s: %d", what, e)
	}
	return d, x
}

// of is changes of a key: of the first number, and all behind it by ones, the newest first.
func of(name string, vals ...string) []key.Entry {
	var list []key.Entry
	for i, val := range vals {
		list = append(list, key.Entry{Key: name, Seq: uint64(len(vals) - i), Val: val, Del: val == ""})
	}
	return list
}

// sized is so many changes of one key each, that have so many bytes of keys and values each.
func sized(n, size int) []key.Entry {
	var list []key.Entry
	for i := range n {
		k := fmt.Sprintf("k%04d", i)
		list = append(list, key.Entry{Key: k, Seq: uint64(n - i), Val: strings.Repeat("v", size-len(k))})
	}
	return list
}

// rolled is changes in order, of keys that begin alike, with noughts among them, and some with many changes.
func rolled(seed, keys int) []key.Entry {
	r := dice(seed)
	var list []key.Entry
	for range keys {
		k := ""
		for range 1 + r.roll(5) {
			k += "\x00\x01a\xff"[r.roll(4):][:1]
		}
		for range 1 + r.roll(4)*r.roll(4) {
			x := key.Entry{Key: k, Seq: uint64(r.roll(60))}
			switch r.roll(4) {
			case 0:
				x.Del = true
			case 1:
				x.Val = strings.Repeat("v", r.roll(600))
			case 2:
				x.Val = strings.Repeat("w", r.roll(40))
			}
			list = append(list, x)
		}
	}
	return inOrder(list)
}

// inOrder is changes in order, of those of one key and number one alone.
func inOrder(list []key.Entry) []key.Entry {
	slices.SortStableFunc(list, key.Entry.Cmp)
	return slices.CompactFunc(list, func(x, y key.Entry) bool { return x.Cmp(y) == 0 })
}

// lists is lists of changes in order, with the edges among them.
func lists() map[string][]key.Entry {
	all := map[string][]key.Entry{
		"one":               {{Key: "a", Seq: 1, Val: "x"}},
		"one that is gone":  {{Key: "a", Seq: key.MaxSeq, Del: true}},
		"one empty":         {{Key: "\x00"}},
		"greatest":          {{Key: strings.Repeat("\x00", api.MaxKey), Seq: key.MaxSeq, Val: strings.Repeat("v", api.MaxVal)}},
		"greatest behind":   append(sized(3, 341), key.Entry{Key: strings.Repeat("z", api.MaxKey), Val: strings.Repeat("v", api.MaxVal)}),
		"ends full":         sized(4, 512),
		"a byte less":       append(sized(1, 511), key.Entry{Key: "z", Val: strings.Repeat("v", 511)}, key.Entry{Key: "zz"}),
		"a byte more":       append(sized(1, 512), key.Entry{Key: "z", Val: strings.Repeat("v", 512)}, key.Entry{Key: "zz"}),
		"one a page":        sized(20, 1024),
		"one of one less":   sized(20, 1023),
		"many small":        sized(700, 9),
		"one key over many": of("key", strings.Split(strings.Repeat(strings.Repeat("v", 300)+",,", 30), ",")...),
		"keys of one byte":  nil,
	}
	for c := range 256 {
		all["keys of one byte"] = append(all["keys of one byte"], key.Entry{Key: string([]byte{byte(c)}), Seq: uint64(c), Val: strings.Repeat("v", c)})
	}
	for seed := range 30 {
		all[fmt.Sprint("rolled ", seed)] = rolled(seed, 1+seed*seed/4)
	}
	return all
}
