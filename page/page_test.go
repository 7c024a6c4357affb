package page

import (
	"bytes"
	"encoding/binary"
	"fmt"
	"slices"
	"sort"
	"strings"
	"testing"

	"tailrace/api"
	"tailrace/key"
)

// dice is numbers with no pattern to speak of, the same ones in each run.
type dice uint64

func (d *dice) roll(n int) int {
	*d = *d*6364136223846793005 + 1442695040888963407
	return int((uint64(*d) >> 33) % uint64(n))
}

// laid is a pair as it stands in a page, with three numbers ahead that needn't be right.
func laid(same, beyond, val uint64, text string) []byte {
	b := binary.AppendUvarint(nil, same)
	b = binary.AppendUvarint(b, beyond)
	return append(binary.AppendUvarint(b, val), text...)
}

// behind is what stands behind a page's pairs: places, and how many they are told to be.
func behind(count uint32, places ...uint32) []byte {
	var b []byte
	for _, at := range append(places, count) {
		b = binary.LittleEndian.AppendUint32(b, at)
	}
	return b
}

// plain is a page's bytes as the document tells them, of pairs whose order and length aren't asked.
func plain(list []Pair) []byte {
	var b []byte
	var places []uint32
	for i, x := range list {
		same := 0
		if i%8 == 0 {
			places = append(places, uint32(len(b)))
		} else {
			for same < min(len(x.Name), len(list[i-1].Name)) && list[i-1].Name[same] == x.Name[same] {
				same++
			}
		}
		b = append(b, laid(uint64(same), uint64(len(x.Name)-same), uint64(len(x.Val)), x.Name[same:]+x.Val)...)
	}
	return append(b, behind(uint32(len(places)), places...)...)
}

// pairBytes is how many bytes of a page its pairs have.
func pairBytes(list []Pair) int {
	return len(plain(list)) - 4*((len(list)+7)/8) - 4
}

// named is pairs of these names, with values of many lengths.
func named(names ...string) []Pair {
	var list []Pair
	for i, name := range names {
		list = append(list, Pair{Name: name, Val: strings.Repeat("v", i*i%150)})
	}
	return list
}

// sorted is pairs of so many names, in order, that begin alike in many ways.
func sorted(n int) []Pair {
	var names []string
	for i := range n {
		names = append(names, strings.Repeat("\x00a\xff"[i%3:i%3+1], i%5)+fmt.Sprint(i/7))
	}
	slices.Sort(names)
	return named(slices.Compact(names)...)
}

// lists is lists of pairs in order, with the edges among them.
func lists() [][]Pair {
	all := [][]Pair{
		nil,
		{},
		{{}},
		{{Val: "x"}},
		{{}, {Name: "\x00"}, {Name: "\x00\x00", Val: "\x00"}},
		named("\x00", "\x7f", "\x80", "\xff", "\xff\x00", "\xff\xff"),
		named("a", "aa", "aaa", "aaaa", "aaaaa", "aaaaaa", "aaaaaaa", "aaaaaaaa", "aaaaaaaaa", "aaaaaaaaaa"),
		named("a", "a\x00", "ab", "abc", "b", "bc", "ä", "äb", "ö"),
		{{Name: strings.Repeat("n", 127), Val: strings.Repeat("v", 128)}, {Name: strings.Repeat("n", 128), Val: strings.Repeat("v", 127)}, {Name: strings.Repeat("n", 300)}},
	}
	for n := range 35 {
		all = append(all, sorted(n))
	}
	return append(all, sorted(300), sorted(1000))
}

// parsed is the page of bytes that are one.
func parsed(t *testing.T, what string, b []byte) Page {
	t.Helper()
	had := bytes.Clone(b)
	p, e := Parse(b)
	if e != api.OK {
		t.Fatalf("Parse of %s: %d", what, e)
	}
	if !bytes.Equal(b, had) {
		t.Errorf("Parse of %s turned what it was given", what)
	}
	return p
}

// nothing tells whether a page has no pairs.
func nothing(t *testing.T, what string, p Page) {
	t.Helper()
	if len(p.All()) != 0 || len(p.From("")) != 0 || len(p.From("a")) != 0 {
		t.Errorf("%s: %d pairs", what, len(p.All()))
	}
}

// refused tells whether bytes are no page's.
func refused(t *testing.T, what string, b []byte) {
	t.Helper()
	p, e := Parse(b)
	if e != api.ErrForm {
		t.Errorf("Parse of %s: %d, want ErrForm", what, e)
	}
	nothing(t, what, p)
}

// P12.2, P12.3: the numbers that the document names.
func TestNumbers(t *testing.T) {
	if Every != 8 || Most != 1<<18 {
		t.Error(Every, Most)
	}
}

// P12.1: of each change its Inner and its Val, in the order of the list, whatever the changes are.
func TestOf(t *testing.T) {
	list := []key.Entry{
		{Key: "k", Seq: 3, Val: "v"}, {Key: "a", Seq: 7, Del: true}, {Key: "a", Seq: 7, Del: true}, {Key: "a\x00b", Seq: key.MaxSeq, Val: strings.Repeat("v", api.MaxVal)},
		{}, {Key: "z", Seq: 1 << 63, Del: true, Val: "x"}, {Key: strings.Repeat("k", 500), Val: ""},
	}
	had := slices.Clone(list)
	got := Of(list)
	if len(got) != len(list) || !slices.Equal(list, had) {
		t.Fatal(len(got))
	}
	for i, x := range list {
		if got[i] != (Pair{Name: x.Inner(), Val: x.Val}) {
			t.Errorf("Of %d: %q", i, got[i].Name)
		}
	}
	want := Pair{Name: "a\x00\x01\xff\xff\xff\xff\xff\xff\xff\xfd"}
	if one := Of([]key.Entry{{Key: "a", Seq: 1, Del: true}}); len(one) != 1 || one[0] != want {
		t.Errorf("Of one: %q", one)
	}
	if len(Of(nil)) != 0 || len(Of([]key.Entry{})) != 0 {
		t.Error("Of none")
	}
}

// P12.2: pages, written out.
func TestMakeWrittenOut(t *testing.T) {
	for what, c := range map[string]struct {
		list []Pair
		want string
	}{
		"no pairs":     {nil, "\x00\x00\x00\x00"},
		"empty pair":   {[]Pair{{}}, "\x00\x00\x00" + "\x00\x00\x00\x00" + "\x01\x00\x00\x00"},
		"one pair":     {[]Pair{{"ab", "xyz"}}, "\x00\x02\x03abxyz" + "\x00\x00\x00\x00" + "\x01\x00\x00\x00"},
		"two pairs":    {[]Pair{{"ab", "x"}, {"acd", ""}}, "\x00\x02\x01abx" + "\x01\x02\x00cd" + "\x00\x00\x00\x00" + "\x01\x00\x00\x00"},
		"begins alike": {[]Pair{{"ab", "x"}, {"abc", "y"}}, "\x00\x02\x01abx" + "\x02\x01\x01cy" + "\x00\x00\x00\x00" + "\x01\x00\x00\x00"},
		"long": {
			[]Pair{{strings.Repeat("n", 130), strings.Repeat("v", 300)}},
			"\x00\x82\x01\xac\x02" + strings.Repeat("n", 130) + strings.Repeat("v", 300) + "\x00\x00\x00\x00" + "\x01\x00\x00\x00",
		},
		"eight": {
			[]Pair{{"a0", ""}, {"a1", ""}, {"a2", ""}, {"a3", ""}, {"a4", ""}, {"a5", ""}, {"a6", ""}, {"a7", "v"}},
			"\x00\x02\x00a0" + "\x01\x01\x001" + "\x01\x01\x002" + "\x01\x01\x003" + "\x01\x01\x004" + "\x01\x01\x005" + "\x01\x01\x006" + "\x01\x01\x017v" +
				"\x00\x00\x00\x00" + "\x01\x00\x00\x00",
		},
		"nine": {
			[]Pair{{"a0", ""}, {"a1", ""}, {"a2", ""}, {"a3", ""}, {"a4", ""}, {"a5", ""}, {"a6", ""}, {"a7", "v"}, {"a8", "w"}},
			"\x00\x02\x00a0" + "\x01\x01\x001" + "\x01\x01\x002" + "\x01\x01\x003" + "\x01\x01\x004" + "\x01\x01\x005" + "\x01\x01\x006" + "\x01\x01\x017v" +
				"\x00\x02\x01a8w" + "\x00\x00\x00\x00" + "\x22\x00\x00\x00" + "\x02\x00\x00\x00",
		},
	} {
		b, e := Make(c.list)
		if string(b) != c.want || e != api.OK {
			t.Errorf("Make of %s: %x, %d, want %x", what, b, e, c.want)
		}
		if !slices.Equal(parsed(t, what, []byte(c.want)).All(), c.list) {
			t.Errorf("Parse of %s", what)
		}
	}
}

// P12.2, P12.3: pages of many lists, and back.
func TestMakeAsTold(t *testing.T) {
	for i, list := range lists() {
		had := slices.Clone(list)
		b, e := Make(list)
		if !bytes.Equal(b, plain(list)) || e != api.OK {
			t.Errorf("Make of list %d: %d bytes, %d", i, len(b), e)
		}
		if !slices.Equal(list, had) {
			t.Errorf("Make of list %d turned it", i)
		}
		if !slices.Equal(parsed(t, fmt.Sprint("list ", i), b).All(), list) {
			t.Errorf("Parse of list %d", i)
		}
	}
}

// made tells whether Make answers this error, and nothing beside it.
func made(t *testing.T, what string, want api.Errno, list ...Pair) {
	t.Helper()
	b, e := Make(list)
	if e != want || e != api.OK && len(b) != 0 {
		t.Errorf("Make of %s: %d bytes, %d, want %d", what, len(b), e, want)
	}
}

// P12.3: a name that isn't behind the one ahead, byte by byte.
func TestMakeOrder(t *testing.T) {
	for _, c := range [][]string{
		{"b", "a"}, {"a", "a"}, {"", ""}, {"a", ""}, {"ab", "a"}, {"\x80", "\x7f"}, {"\xff", "\x00"}, {"a\x00", "a"}, {"ä", "z"}, {"b", "ab"}, {"a", "B"},
		{"a", "b", "b"}, {"a", "c", "b"}, {"a", "b", "a"},
		{"0", "1", "2", "3", "4", "5", "6", "7", "7"}, {"0", "1", "2", "3", "4", "5", "6", "7", "", "9"}, {"0", "1", "2", "3", "4", "5", "6", "6", "8"},
	} {
		made(t, fmt.Sprintf("%q", c), api.ErrArg, named(c...)...)
	}
	made(t, "a name twice, with unlike values", api.ErrArg, Pair{"a", "x"}, Pair{"a", "y"})
}

// P12.3: pairs of as many bytes as there may be, and of one more: what stands behind the pairs isn't counted, nor what isn't laid.
func TestMakeLong(t *testing.T) {
	one := func(size int) Pair { return Pair{"a", strings.Repeat("v", size)} }
	// 1 and 1 and 3 bytes of numbers, 1 of the name.
	made(t, "one", api.OK, one(Most-6))
	made(t, "one, too long", api.ErrLong, one(Most-5))
	made(t, "one, far too long", api.ErrLong, one(4*Most))
	made(t, "a name", api.OK, Pair{Name: strings.Repeat("n", Most-5)})
	made(t, "a name, too long", api.ErrLong, Pair{Name: strings.Repeat("n", Most-4)})
	made(t, "two", api.OK, one(Most-10), Pair{"b", ""})
	made(t, "two, too long", api.ErrLong, one(Most-9), Pair{"b", ""})
	made(t, "two, the second too long", api.ErrLong, one(Most-10), Pair{"b", "v"})

	var many, names []Pair
	for i := range 50000 {
		many = append(many, Pair{Name: fmt.Sprintf("%05d", i), Val: "v"})
	}
	many = many[:sort.Search(len(many), func(n int) bool { return pairBytes(many[:n]) > Most })-1]
	many[len(many)-1].Val += strings.Repeat("v", Most-pairBytes(many))
	made(t, "many", api.OK, many...)
	if b := plain(many); len(b) <= Most || !slices.Equal(parsed(t, "many", b).All(), many) {
		t.Error("many", len(b))
	}
	many[0].Val = "vv"
	made(t, "many, too long", api.ErrLong, many...)
	refused(t, "many, too long", plain(many))

	for i := range 8 {
		names = append(names, Pair{Name: strings.Repeat("n", Most-100+i)})
	}
	made(t, "names that are alike", api.OK, names...)
	if !slices.Equal(parsed(t, "names that are alike", plain(names)).All(), names) {
		t.Error("names that are alike")
	}
	made(t, "names that are alike, one of them whole", api.ErrLong, append(names, Pair{Name: strings.Repeat("n", Most)})...)
}

// P12.3: pair by pair, of one pair the order first.
func TestMakeFirstError(t *testing.T) {
	long := strings.Repeat("v", Most)
	made(t, "too long and out of order", api.ErrArg, Pair{"b", ""}, Pair{"a", long})
	made(t, "too long ahead of one out of order", api.ErrLong, Pair{"b", long}, Pair{"a", ""})
	made(t, "out of order ahead of one too long", api.ErrArg, Pair{"b", ""}, Pair{"a", ""}, Pair{"c", long})
	made(t, "too long in all, then out of order", api.ErrLong, Pair{"b", ""}, Pair{"c", long[:Most-4]}, Pair{"a", ""})
}

// P12.3: bytes beyond what a page may have are no page's, however right.
func TestParseLong(t *testing.T) {
	for what, list := range map[string][]Pair{
		"one too long":     {{"a", strings.Repeat("v", Most-5)}},
		"one far too long": {{"a", strings.Repeat("v", 8*Most)}},
		"a name too long":  {{Name: strings.Repeat("n", Most-4)}},
		"two too long":     {{"a", strings.Repeat("v", Most-10)}, {"b", "v"}},
	} {
		refused(t, what, plain(list))
	}
	refused(t, "as long as can be", plain([]Pair{{"a", strings.Repeat("v", Most-6)}})[1:])
	parsed(t, "as long as can be", plain([]Pair{{"a", strings.Repeat("v", Most-6)}}))
}

// P12.3: bytes that aren't laid as a page's are.
func TestParseWrong(t *testing.T) {
	eight := plain(named("0", "1", "2", "3", "4", "5", "6", "60"))
	eight = eight[:len(eight)-8]
	for what, parts := range map[string][][]byte{
		"nothing":                      {},
		"three noughts":                {{0, 0, 0}},
		"five noughts":                 {{0}, behind(0)},
		"a place of no pairs":          {behind(1, 0)},
		"two places of no pairs":       {behind(2, 0, 0)},
		"more places than bytes":       {behind(1)},
		"far more places than bytes":   {behind(1<<32-1, 0, 0, 0)},
		"places that wrap round":       {laid(0, 1, 0, "a"), behind(1<<30, 0)},
		"no place":                     {laid(0, 1, 0, "a"), behind(0)},
		"a place that isn't counted":   {laid(0, 1, 0, "a"), behind(0, 0)},
		"a place that isn't right":     {laid(0, 1, 0, "a"), behind(1, 1)},
		"a place with its highest bit": {laid(0, 1, 0, "a"), behind(1, 1<<31)},
		"two places":                   {laid(0, 1, 0, "a"), behind(2, 0, 0)},
		"a place of the second pair":   {laid(0, 1, 0, "a"), laid(0, 1, 0, "b"), behind(2, 0, 4)},
		"the place of the second pair": {laid(0, 1, 0, "a"), laid(0, 1, 0, "b"), behind(1, 4)},
		"the ninth pair not told":      {eight, laid(0, 2, 0, "61"), behind(1, 0)},
		"the ninth pair told wrongly":  {eight, laid(0, 2, 0, "61"), behind(2, 0, uint32(len(eight)-1))},
		"places in the other order":    {eight, laid(0, 2, 0, "61"), behind(2, uint32(len(eight)), 0)},
		"the ninth pair not whole":     {eight, laid(1, 1, 0, "1"), behind(2, 0, uint32(len(eight)))},
		"the first pair not whole":     {laid(1, 0, 0, ""), behind(1, 0)},
		"the eighth pair whole":        {eight[:len(eight)-4-49], laid(0, 2, 0, "60"), behind(1, 0)},
		"not as many alike as can be":  {laid(0, 2, 0, "aa"), laid(0, 2, 0, "ab"), behind(1, 0)},
		"one fewer alike":              {laid(0, 3, 0, "aaa"), laid(1, 2, 0, "ab"), behind(1, 0)},
		"more alike than there are":    {laid(0, 1, 0, "a"), laid(2, 1, 0, "b"), behind(1, 0)},
		"far more alike":               {laid(0, 1, 0, "a"), laid(1<<63, 1, 0, "b"), behind(1, 0)},
		"most alike":                   {laid(0, 1, 0, "a"), laid(1<<64-1, 1, 0, "b"), behind(1, 0)},
		"a name twice":                 {laid(0, 1, 0, "a"), laid(1, 0, 0, ""), behind(1, 0)},
		"no name, twice":               {laid(0, 0, 0, ""), laid(0, 0, 0, ""), behind(1, 0)},
		"names out of order":           {laid(0, 1, 0, "b"), laid(0, 1, 0, "a"), behind(1, 0)},
		"a name that begins alike":     {laid(0, 2, 0, "ab"), laid(1, 0, 0, ""), behind(1, 0)},
		"a name cut short":             {laid(0, 3, 0, "ab"), behind(1, 0)},
		"a name with its highest bit":  {laid(0, 1<<63, 0, "a"), behind(1, 0)},
		"the longest name":             {laid(0, 1<<64-1, 0, "a"), behind(1, 0)},
		"a value cut short":            {laid(0, 1, 1, "a"), behind(1, 0)},
		"a value with its highest bit": {laid(0, 1, 1<<63, "a"), behind(1, 0)},
		"the longest value":            {laid(0, 1, 1<<64-1, "a"), behind(1, 0)},
		"lengths that wrap round":      {laid(0, 1<<64-1, 2, "a"), behind(1, 0)},
		"one byte beyond":              {laid(0, 1, 0, "ab"), behind(1, 0)},
		"a number cut short":           {{0, 1, 128}, behind(1, 0)},
		"a number alone":               {{0}, behind(1, 0)},
		"two numbers alone":            {{0, 0}, behind(1, 0)},
		"no alike, too long":           {{128, 0, 1, 0, 'a'}, behind(1, 0)},
		"beyond, too long":             {{0, 129, 0, 0, 'a'}, behind(1, 0)},
		"value, too long":              {{0, 1, 128, 0, 'a'}, behind(1, 0)},
		"a number of eleven bytes":     {bytes.Repeat([]byte{128}, 10), {0, 1, 0, 'a'}, behind(1, 0)},
	} {
		refused(t, what, slices.Concat(parts...))
	}
	parsed(t, "eight", append(bytes.Clone(eight), behind(1, 0)...))
	parsed(t, "nine", slices.Concat(eight, laid(0, 2, 0, "61"), behind(2, 0, uint32(len(eight)))))
}

// P12.3: many short pairs beside one long name are told wrong with no more made of them than a page has.
func TestParseWouldBeGreat(t *testing.T) {
	b := laid(0, Most/2, 0, strings.Repeat("n", Most/2))
	for len(b) < Most-8 {
		b = append(b, laid(Most/2, 0, 0, "")...)
	}
	refused(t, "many of a long name", append(b, behind(1, 0)...))
	refused(t, "many noughts", make([]byte, 32*Most))
}

// P12.3: cut short, or with bytes ahead or behind, no page is one.
func TestParseCut(t *testing.T) {
	for i, list := range lists()[1:40] {
		b := plain(list)
		for n := range b {
			if n != 4 || b[0] != 0 || b[1] != 0 || b[2] != 0 || b[3] != 0 {
				refused(t, fmt.Sprint("list ", i, " cut to ", n), b[:n])
			}
		}
		for c := range 256 {
			refused(t, fmt.Sprint("list ", i, " with one behind"), append(bytes.Clone(b), byte(c)))
		}
		refused(t, fmt.Sprint("list ", i, " with its count again"), append(bytes.Clone(b), b[len(b)-4:]...))
	}
}

// P12.3: with any byte turned to any other it is no page, or just that of which these are the bytes.
func TestParseTurned(t *testing.T) {
	short := sorted(20)
	for i := range short {
		short[i].Val = short[i].Val[:min(len(short[i].Val), i%4)]
	}
	for i, list := range [][]Pair{nil, {{"ab", "xyz"}}, named("a", "ab", "abc", "b", "ba"), short} {
		b := plain(list)
		for at := range b {
			for c := range 256 {
				turned := bytes.Clone(b)
				turned[at] = byte(c)
				p, e := Parse(turned)
				switch {
				case e == api.ErrForm:
					nothing(t, fmt.Sprint("list ", i), p)
					if byte(c) == b[at] {
						t.Fatalf("list %d: Parse: %d", i, e)
					}
				case e != api.OK || !bytes.Equal(plain(p.All()), turned):
					t.Fatalf("list %d, byte %d as %d: %d", i, at, c, e)
				case !slices.IsSortedFunc(p.All(), func(x, y Pair) int { return strings.Compare(x.Name, y.Name) }):
					t.Fatalf("list %d, byte %d as %d: not in order", i, at, c)
				}
			}
		}
	}
}

// P12.3: any bytes are a page's, or told wrong.
func TestParseAny(t *testing.T) {
	r := dice(1)
	for range 20000 {
		b := make([]byte, r.roll(24))
		for i := range b {
			b[i] = byte(r.roll(256) >> r.roll(9))
		}
		b = append(b, behind(uint32(r.roll(3)))...)
		p, e := Parse(b)
		if e != api.ErrForm && (e != api.OK || !bytes.Equal(plain(p.All()), b)) {
			t.Fatalf("%x: %d", b, e)
		}
	}
}

// P12.3: From every name of a page, and ahead of, behind and beside each of them.
func TestFrom(t *testing.T) {
	for i, list := range lists() {
		p := parsed(t, fmt.Sprint("list ", i), plain(list))
		names := []string{"", "\x00", "a", "aa", "b", "\x7f", "\x80", "\xff\xff\xff\xff\xff", strings.Repeat("n", 200)}
		for _, x := range list {
			names = append(names, x.Name, x.Name+"\x00", x.Name+"\xff", x.Name[:len(x.Name)/2])
		}
		for _, name := range names {
			var want []Pair
			for _, x := range list {
				if x.Name >= name {
					want = append(want, x)
				}
			}
			if got := p.From(name); !slices.Equal(got, want) {
				t.Fatalf("list %d: From(%q): %d pairs, want %d", i, name, len(got), len(want))
			}
		}
		if !slices.Equal(p.All(), list) {
			t.Errorf("list %d: All", i)
		}
	}
}

// P12.3: the zero Page has no pairs, and so has that of four noughts.
func TestNone(t *testing.T) {
	nothing(t, "zero", Page{})
	nothing(t, "four noughts", parsed(t, "four noughts", make([]byte, 4)))
}

// A page keeps nothing of what was handed in, and gives nothing of its own away.
func TestOwnMemory(t *testing.T) {
	list := sorted(20)
	b := append(plain(list), 1, 2, 3)
	p := parsed(t, "bytes with room behind", b[:len(b)-3])
	if !bytes.Equal(b[len(b)-3:], []byte{1, 2, 3}) {
		t.Error("the room behind", b[len(b)-3:])
	}
	clear(b)
	for _, got := range [][]Pair{p.All(), p.From(""), p.From(list[3].Name)} {
		clear(got[:cap(got)])
	}
	if !slices.Equal(p.All(), list) || !slices.Equal(p.From(list[3].Name), list[3:]) {
		t.Error("turned outside")
	}
	two := append(slices.Clone(list), Pair{"behind", "it"})
	c, e := Make(two[:len(list)])
	if e != api.OK || two[len(list)] != (Pair{"behind", "it"}) {
		t.Error("Make", e, two[len(list)])
	}
	clear(two)
	if !bytes.Equal(c, plain(list)) {
		t.Error("Make kept what it was given")
	}
}
