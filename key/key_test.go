package key

import (
	"bytes"
	"math"
	"slices"
	"strings"
	"testing"

	"tailrace/api"
)

// rights are entries in their order, of unlike Key or Seq, with the edges among them.
func rights() []Entry {
	names := []string{
		"\x00", "\x00\x00", "\x00\x00\x01", "\x00\x01", "\x00\x02", "\x00\xff", "\x00\xff\x00",
		"\x01", "\x01\x00", "\x01\x01", "a", "a\x00", "a\x00\x00", "a\x00\x01", "a\x00\xfe", "a\x00\xff", "a\x01",
		"a\x01\xff", "a\xff", "aa", "ab", "b", "b\x00c",
		strings.Repeat("b", api.MaxKey), "ä", "\xff", "\xff\x00", "\xff\xff", strings.Repeat("\xff", api.MaxKey),
	}
	slices.Sort(names)
	var list []Entry
	for _, name := range names {
		for i, seq := range []uint64{MaxSeq, MaxSeq - 1, 1 << 55, 1 << 32, 257, 256, 255, 9, 8, 7, 2, 1, 0} {
			x := Entry{Key: name, Seq: seq, Del: i%3 == 1}
			if i%3 == 2 {
				x.Val = "v" + name
			}
			list = append(list, x)
		}
	}
	list[0].Val = strings.Repeat("v", api.MaxVal)
	return list
}

// P6.1: what is right, and each bound.
func TestCheck(t *testing.T) {
	long, longVal := strings.Repeat("k", api.MaxKey), strings.Repeat("v", api.MaxVal)
	for i, c := range []struct {
		x Entry
		e api.Errno
	}{
		{Entry{Key: "a"}, api.OK},
		{Entry{Key: "\x00"}, api.OK},
		{Entry{Key: "a", Val: "x"}, api.OK},
		{Entry{Key: "a", Del: true}, api.OK},
		{Entry{Key: "a", Seq: 1<<56 - 1, Del: true}, api.OK},
		{Entry{Key: long, Seq: MaxSeq, Val: longVal}, api.OK},
		{Entry{}, api.ErrArg},
		{Entry{Seq: 1, Val: "x"}, api.ErrArg},
		{Entry{Key: "a", Seq: 1 << 56}, api.ErrArg},
		{Entry{Key: "a", Seq: math.MaxUint64}, api.ErrArg},
		{Entry{Key: "a", Del: true, Val: "x"}, api.ErrArg},
		{Entry{Key: long + "k"}, api.ErrLong},
		{Entry{Key: long + "k", Del: true}, api.ErrLong},
		{Entry{Key: "a", Val: longVal + "v"}, api.ErrLong},
		{Entry{Key: long + "k", Val: longVal + "v"}, api.ErrLong},
	} {
		if e := c.x.Check(); e != c.e {
			t.Errorf("Check %d: %d, want %d", i, e, c.e)
		}
	}
	for i, x := range rights() {
		if e := x.Check(); e != api.OK {
			t.Errorf("Check of right %d: %d", i, e)
		}
	}
}

// P6.1: of several errors ErrArg comes first.
func TestCheckOrder(t *testing.T) {
	long, longVal := strings.Repeat("k", api.MaxKey+1), strings.Repeat("v", api.MaxVal+1)
	for i, x := range []Entry{
		{Val: longVal},
		{Key: long, Seq: MaxSeq + 1},
		{Key: "a", Seq: MaxSeq + 1, Val: longVal},
		{Key: long, Del: true, Val: "x"},
		{Key: "a", Del: true, Val: longVal},
	} {
		if e := x.Check(); e != api.ErrArg {
			t.Errorf("Check %d: %d, want ErrArg", i, e)
		}
	}
}

// P6.1: each against each: by key, byte by byte, then by falling Seq; -1, 0 or 1.
func TestCmp(t *testing.T) {
	list := rights()
	for i, x := range list {
		for j, y := range list {
			want := 0
			if i < j {
				want = -1
			} else if i > j {
				want = 1
			}
			if got := x.Cmp(y); got != want {
				t.Fatalf("Cmp of %q %d and %q %d: %d, want %d", x.Key, x.Seq, y.Key, y.Seq, got, want)
			}
		}
	}
}

// P6.1: neither Del nor Val counts in the order, and entries that aren't right have their order, too.
func TestCmpOthers(t *testing.T) {
	for _, c := range []struct {
		x, y Entry
		want int
	}{
		{Entry{Key: "a", Seq: 9}, Entry{Key: "a", Seq: 7}, -1},
		{Entry{Key: "a", Seq: 7, Del: true}, Entry{Key: "a", Seq: 7, Val: "x"}, 0},
		{Entry{Key: "a", Seq: 7, Val: "y"}, Entry{Key: "a", Seq: 7, Val: "x"}, 0},
		{Entry{}, Entry{}, 0},
		{Entry{}, Entry{Key: "a"}, -1},
		{Entry{Key: "a", Seq: math.MaxUint64}, Entry{Key: "a"}, -1},
		{Entry{Key: "a", Seq: math.MaxUint64}, Entry{Key: "a", Seq: 1 << 63}, -1},
		{Entry{Key: "a", Seq: 1}, Entry{Key: "b", Seq: 9}, -1},
		{Entry{Key: "\x7f"}, Entry{Key: "\x80"}, -1},
		{Entry{Key: strings.Repeat("a", 500)}, Entry{Key: strings.Repeat("a", 501)}, -1},
	} {
		if got := c.x.Cmp(c.y); got != c.want {
			t.Errorf("Cmp of %v and %v: %d, want %d", c.x, c.y, got, c.want)
		}
		if got := c.y.Cmp(c.x); got != -c.want {
			t.Errorf("Cmp of %v and %v: %d, want %d", c.y, c.x, got, -c.want)
		}
	}
}

// P6.2: Inners, written out.
func TestInnerWrittenOut(t *testing.T) {
	for _, c := range []struct {
		x    Entry
		want string
	}{
		{Entry{Key: "a", Seq: 1, Del: true}, "a\x00\x01\xff\xff\xff\xff\xff\xff\xff\xfd"},
		{Entry{Key: "a", Seq: 1}, "a\x00\x01\xff\xff\xff\xff\xff\xff\xff\xfc"},
		{Entry{Key: "a", Seq: 1, Val: "xyz"}, "a\x00\x01\xff\xff\xff\xff\xff\xff\xff\xfc"},
		{Entry{Key: "a", Del: true}, "a\x00\x01\xff\xff\xff\xff\xff\xff\xff\xff"},
		{Entry{Key: "a"}, "a\x00\x01\xff\xff\xff\xff\xff\xff\xff\xfe"},
		{Entry{Key: "a", Seq: 300}, "a\x00\x01\xff\xff\xff\xff\xff\xff\xfd\xa6"},
		{Entry{Key: "ab", Seq: MaxSeq}, "ab\x00\x01\xfe\x00\x00\x00\x00\x00\x00\x00"},
		{Entry{Key: "ab", Seq: MaxSeq, Del: true}, "ab\x00\x01\xfe\x00\x00\x00\x00\x00\x00\x01"},
		{Entry{Key: "\x00", Del: true}, "\x00\xff\x00\x01\xff\xff\xff\xff\xff\xff\xff\xff"},
		{Entry{Key: "\x00\x00\x01\xff", Del: true}, "\x00\xff\x00\xff\x01\xff\x00\x01\xff\xff\xff\xff\xff\xff\xff\xff"},
		{Entry{Key: "a\x00b", Del: true}, "a\x00\xffb\x00\x01\xff\xff\xff\xff\xff\xff\xff\xff"},
	} {
		if got := c.x.Inner(); got != c.want {
			t.Errorf("Inner of %v: %x, want %x", c.x, got, c.want)
		}
		checkOuter(t, c.want, Entry{Key: c.x.Key, Seq: c.x.Seq, Del: c.x.Del}, api.OK)
	}
}

func checkOuter(t *testing.T, s string, want Entry, e api.Errno) {
	t.Helper()
	if got, gotE := Outer(s); got != want || gotE != e {
		t.Errorf("Outer(%x): %v %d, want %v %d", s, got, gotE, want, e)
	}
}

// P6.2: Inners stand in the order of their entries, and Outer finds these again, without a Val.
func TestInnerOrder(t *testing.T) {
	list := rights()
	for i, x := range list {
		checkOuter(t, x.Inner(), Entry{Key: x.Key, Seq: x.Seq, Del: x.Del}, api.OK)
		for j, y := range list {
			if got := strings.Compare(x.Inner(), y.Inner()); got != x.Cmp(y) {
				t.Fatalf("Inners of %d and %d: %d", i, j, got)
			}
		}
	}
}

// P6.2: texts that aren't an Inner of any entry that is right.
func TestOuterWrong(t *testing.T) {
	const tail = "\xff\xff\xff\xff\xff\xff\xff\xff"
	for _, s := range []string{
		"",
		"a",
		"abcdefghijkl",
		"a\x00",
		"\x00\xff\x00",
		"a\x00\x01",
		"a\x00\x01" + tail[:1],
		"a\x00\x01" + tail[:7],
		"a\x00\x01" + tail + "\xff",
		"a\x00\x01" + tail + tail,
		"a" + tail,
		"a\x00" + tail,
		"a\x01" + tail,
		"a\x00\x00" + tail,
		"a\x00\x00\x01" + tail,
		"a\x00\x02" + tail,
		"a\x00\xfe" + tail,
		"a\x00\xfeb\x00\x01" + tail,
		"a\x00\xff" + tail,
		"a\x00\xff\x01" + tail,
		"\x00\x01" + tail,
		"\x01" + tail,
		tail,
		"a\x00\x01\xfd\xff\xff\xff\xff\xff\xff\xff",
		"a\x00\x01\x00\x00\x00\x00\x00\x00\x00\x00",
		"a\x00\x01\x7f\xff\xff\xff\xff\xff\xff\xff",
		strings.Repeat("a", api.MaxKey+1) + "\x00\x01" + tail,
		strings.Repeat("\x00\xff", api.MaxKey+1) + "\x00\x01" + tail,
		strings.Repeat("\x00\xff", api.MaxKey),
	} {
		checkOuter(t, s, Entry{}, api.ErrForm)
	}
	// At the same bounds, but within them.
	checkOuter(t, strings.Repeat("\x00\xff", api.MaxKey)+"\x00\x01"+tail, Entry{Key: strings.Repeat("\x00", api.MaxKey), Del: true}, api.OK)
	checkOuter(t, "a\x00\x01\xfe\x00\x00\x00\x00\x00\x00\x00", Entry{Key: "a", Seq: MaxSeq}, api.OK)
	checkOuter(t, "a\x00\x01\x00\x01\x01\x01\x01\x01\x01\x01", Entry{}, api.ErrForm)
}

// P6.2: each beginning of an Inner is none.
func TestOuterCut(t *testing.T) {
	for _, x := range rights() {
		s := x.Inner()
		for i := range len(s) {
			checkOuter(t, s[:i], Entry{}, api.ErrForm)
		}
	}
}

// P6.3: entries, written out.
func TestPutWrittenOut(t *testing.T) {
	for _, c := range []struct {
		x    Entry
		want string
	}{
		{Entry{Key: "a", Seq: 1, Del: true}, "\x0ba\x00\x01\xff\xff\xff\xff\xff\xff\xff\xfd\x00"},
		{Entry{Key: "a", Seq: 1, Val: "xyz"}, "\x0ba\x00\x01\xff\xff\xff\xff\xff\xff\xff\xfc\x03xyz"},
		{Entry{Key: strings.Repeat("k", 128), Seq: 1}, "\x8a\x01" + strings.Repeat("k", 128) + "\x00\x01\xff\xff\xff\xff\xff\xff\xff\xfc\x00"},
		{Entry{Key: "\x00", Val: strings.Repeat("v", 300)}, "\x0c\x00\xff\x00\x01\xff\xff\xff\xff\xff\xff\xff\xfe\xac\x02" + strings.Repeat("v", 300)},
	} {
		for _, b := range [][]byte{nil, {}, []byte("ab"), slices.Clip([]byte("ab")), append(make([]byte, 0, 1000), "ab"...)} {
			had := string(b)
			if got := c.x.Put(b); string(got) != had+c.want {
				t.Errorf("Put of %v behind %q: %x", c.x, had, got)
			}
			if string(b) != had {
				t.Errorf("Put of %v turned %q", c.x, had)
			}
		}
	}
}

func checkGet(t *testing.T, b string, want Entry, n int, e api.Errno) {
	t.Helper()
	in := []byte(b)
	if got, gotN, gotE := Get(in); got != want || gotN != n || gotE != e {
		t.Errorf("Get(%.40x): %.40v %d %d, want %.40v %d %d", b, got, gotN, gotE, want, n, e)
	}
	if string(in) != b {
		t.Errorf("Get(%.40x) turned what it was given", b)
	}
}

// P6.3: what is put is got again, whatever stands behind it; cut short anywhere it is ErrShort.
func TestGetReadsPut(t *testing.T) {
	for _, x := range rights() {
		b := string(x.Put(nil))
		for _, behind := range []string{"", "\x00", "\xff\xff", b} {
			checkGet(t, b+behind, x, len(b), api.OK)
		}
		for i := range min(len(b), 300) {
			checkGet(t, b[:i], Entry{}, 0, api.ErrShort)
			checkGet(t, b[:len(b)-1-i], Entry{}, 0, api.ErrShort)
		}
	}
}

// P6.3: an entry that was got stays as it is when the bytes are turned.
func TestGetNewMemory(t *testing.T) {
	x := Entry{Key: "abc", Seq: 3, Val: "defghi"}
	b := x.Put(nil)
	got, _, _ := Get(b)
	clear(b)
	if got != x {
		t.Errorf("Get: %v, want %v", got, x)
	}
}

// text is a text with its length ahead, the length of one byte.
func text(s string) string {
	return string([]byte{byte(len(s))}) + s
}

// P6.3: what comes first is told: the first length, its bytes, the second length, its bytes, what they are.
func TestGetOrder(t *testing.T) {
	const wrong = "a\x00\x02\xff\xff\xff\xff\xff\xff\xff\xff"
	right := Entry{Key: "a"}.Inner()
	nine := strings.Repeat("\xff", 9)
	for _, c := range []struct {
		b string
		e api.Errno
	}{
		{"", api.ErrShort},
		{"\x80", api.ErrShort},
		{"\x80\x00", api.ErrForm},
		{nine + "\x02", api.ErrForm},
		{nine + "\x01", api.ErrShort},
		{nine + "\x01" + right, api.ErrShort},
		{"\xff\xff\xff\xff\x0f" + right, api.ErrShort},
		{"\x01", api.ErrShort},
		{text(wrong)[:8], api.ErrShort},
		{text(wrong), api.ErrShort},
		{text(wrong) + "\x80", api.ErrShort},
		{text(wrong) + "\x80\x00", api.ErrForm},
		{text(right) + "\x80\x00", api.ErrForm},
		{text(right) + nine + "\x02", api.ErrForm},
		{text(right) + nine + "\x01", api.ErrShort},
		{text(right) + "\x80\x80\x80\x80\x80\x80\x80\x80\x80\x01abc", api.ErrShort},
		{text(right), api.ErrShort},
		{text(right) + "\x03ab", api.ErrShort},
		{text(wrong) + "\x03ab", api.ErrShort},
		{text(wrong) + "\x03abc", api.ErrForm},
		{text(wrong) + "\x00", api.ErrForm},
		{"\x00\x00", api.ErrForm},
		{"\x00", api.ErrShort},
		{text(right+"x") + "\x00", api.ErrForm},
		{text(right[:len(right)-1]) + "\x00", api.ErrForm},
	} {
		checkGet(t, c.b, Entry{}, 0, c.e)
		if c.e == api.ErrForm {
			checkGet(t, c.b+"abc", Entry{}, 0, c.e)
		}
	}
}

// P6.3: an entry that isn't right is ErrForm: a Del with a Val, a Val that is too long, a key that is.
func TestGetNotRight(t *testing.T) {
	long := strings.Repeat("v", api.MaxVal)
	checkGet(t, string(Entry{Key: "a", Val: long}.Put(nil)), Entry{Key: "a", Val: long}, 12+3+api.MaxVal, api.OK)
	for _, x := range []Entry{
		{Key: "a", Seq: 5, Del: true, Val: "x"},
		{Key: "a", Seq: 5, Val: long + "v"},
		{Key: "a", Seq: 5, Del: true, Val: long + "v"},
		{Key: strings.Repeat("k", api.MaxKey+1), Seq: 5},
		{Key: "a", Seq: MaxSeq + 1},
		{Seq: 5},
	} {
		b := string(x.Put(nil))
		checkGet(t, b, Entry{}, 0, api.ErrForm)
		checkGet(t, b[:len(b)-1], Entry{}, 0, api.ErrShort)
	}
}

// Rule 1: entries that aren't right don't make a call panic, and b's bytes stay.
func TestNotRight(t *testing.T) {
	for _, x := range []Entry{{}, {Seq: math.MaxUint64, Del: true, Val: "x"}, {Key: strings.Repeat("\x00", 1000), Seq: 1 << 63, Val: strings.Repeat("v", 1<<17)}} {
		if b := x.Put([]byte("ab")); !bytes.HasPrefix(b, []byte("ab")) || !strings.Contains(string(b), x.Inner()) {
			t.Errorf("Put of one that isn't right: %.40x", b)
		}
	}
}

func FuzzGet(f *testing.F) {
	f.Add(Entry{Key: "a", Seq: 1, Val: "x"}.Put(nil))
	f.Add(Entry{Key: "a\x00b", Seq: MaxSeq, Del: true}.Put(nil))
	f.Fuzz(func(t *testing.T, b []byte) {
		if x, n, e := Get(b); e == api.OK && (x.Check() != api.OK || !bytes.Equal(x.Put(nil), b[:n])) {
			t.Errorf("Get(%x): %v %d", b, x, n)
		}
		if x, e := Outer(string(b)); e == api.OK && (x.Check() != api.OK || x.Inner() != string(b)) {
			t.Errorf("Outer(%x): %v", b, x)
		}
	})
}
