package edit

import (
	"fmt"
	"math"
	"strings"
	"testing"

	"tailrace/api"
	"tailrace/disk"
	"tailrace/key"
	"tailrace/num"
	"tailrace/wal"
)

// shown is all that an edit is, as one text; a list that is nil is as one that is empty.
func shown(x Edit) string {
	return fmt.Sprintf("%+v", x)
}

// reads tells whether Decode answers an edit, of just these bytes.
func reads(t *testing.T, b string, want Edit) {
	t.Helper()
	if x, e := Decode([]byte(b)); shown(x) != shown(want) || e != api.OK {
		t.Errorf("Decode of %x: %s %d, want %s", b, shown(x), e, shown(want))
	}
	if got := want.Encode(); string(got) != b {
		t.Errorf("Encode of %s: %x, want %x", shown(want), got, b)
	}
}

// none tells whether Decode answers ErrForm, and nothing beside it.
func none(t *testing.T, what, b string) {
	t.Helper()
	if x, e := Decode([]byte(b)); shown(x) != shown(Edit{}) || e != api.ErrForm {
		t.Errorf("Decode, %s: %s %d, want ErrForm", what, shown(x), e)
	}
}

// P15.3: edits and their bytes, written out.
func TestEncodeWrittenOut(t *testing.T) {
	reads(t, "\x00\x00\x00\x00\x00", Edit{})
	reads(t, "\xac\x02\x04\x80\x01\x02\x05\x80\x02\x00", Edit{Log: 300, Next: 4, Seq: 128, Del: []int{5, 256}})
	reads(t, "\x01\x02\x03\x00\x02"+"\x07\x01\x81\x01\x01a\x02bc"+"\x06\x05\x00\x00\x01\x00",
		Edit{Log: 1, Next: 2, Seq: 3, Add: []Meta{{Num: 7, Level: 1, Size: 129, Low: "a", High: "bc"}, {Num: 6, Level: 5, High: "\x00"}}})
	reads(t, "\x00\x00\x00\x01\x09\x01"+"\x00\x00\x00\x01b\x01a", Edit{Del: []int{9}, Add: []Meta{{Low: "b", High: "a"}}})
}

// full is an edit with all numbers at their bounds, and as many of each as there may be.
func full() Edit {
	x := Edit{Log: wal.MaxPart, Next: MostNum, Seq: key.MaxSeq}
	for range MostFiles {
		x.Del = append(x.Del, MostNum)
		x.Add = append(x.Add, Meta{Num: MostNum, Level: 5, Size: disk.MaxRoom, Low: long(api.MaxKey), High: long(api.MaxKey)})
	}
	return x
}

// P15.3: each bound, from both sides.
func TestDecodeBounds(t *testing.T) {
	if x, e := Decode(full().Encode()); shown(x) != shown(full()) || e != api.OK {
		t.Error("all at their bounds:", e)
	}
	for what, turn := range map[string]func(x *Edit){
		"Log":    func(x *Edit) { x.Log++ },
		"Next":   func(x *Edit) { x.Next++ },
		"Seq":    func(x *Edit) { x.Seq++ },
		"a Seq":  func(x *Edit) { x.Seq = math.MaxUint64 },
		"a Log":  func(x *Edit) { x.Log = math.MaxInt },
		"Dels":   func(x *Edit) { x.Del = append(x.Del, 1) },
		"a Del":  func(x *Edit) { x.Del[999]++ },
		"Adds":   func(x *Edit) { x.Add = append(x.Add, x.Add[0]) },
		"a Num":  func(x *Edit) { x.Add[999].Num++ },
		"Level":  func(x *Edit) { x.Add[999].Level++ },
		"Size":   func(x *Edit) { x.Add[999].Size++ },
		"Low":    func(x *Edit) { x.Add[999].Low += "k" },
		"High":   func(x *Edit) { x.Add[999].High += "k" },
		"a High": func(x *Edit) { x.Add[0].High = long(70000) },
	} {
		x := full()
		turn(&x)
		none(t, what+" above", string(x.Encode()))
	}
	// Numbers that are below 0 as an int.
	great := string(num.Put(nil, math.MaxUint64))
	none(t, "a great Log", great+"\x00\x00\x00\x00")
	none(t, "a great count of Dels", "\x00\x00\x00"+great+"\x00")
	none(t, "a great count of Adds", "\x00\x00\x00\x00"+great)
	none(t, "a great length", "\x00\x00\x00\x00\x01\x01\x01\x01"+great+"a\x01b")
}

// P15.3: bytes that end too soon or too late, or have numbers in longer forms.
func TestDecodeRefuses(t *testing.T) {
	x := Edit{Log: 300, Next: 5, Seq: 1 << 50, Del: []int{1, 200}, Add: []Meta{meta(3, 2, "low", "mid"), meta(400, 0, "a", strings.Repeat("z", 128))}}
	b := string(x.Encode())
	reads(t, b, x)
	for n := range b {
		none(t, fmt.Sprint("cut to ", n), b[:n])
	}
	none(t, "a byte more", b+"\x00")
	none(t, "twice", b+b)
	none(t, "a longer form of a Log", "\x80\x00\x00\x00\x00\x00")
	none(t, "a longer form of a count", "\x00\x00\x00\x00\x80\x00")
	none(t, "more Dels than there are", "\x00\x00\x00\x02\x01\x00")
	none(t, "fewer Dels than there are", "\x00\x00\x00\x01\x01\x02\x00")
	none(t, "a text that isn't there", "\x00\x00\x00\x00\x01\x01\x01\x01\x01a\x02b")
}

// P15.3: whatever the bytes are, they are ErrForm, or just what Encode lays of the edit that they are.
func TestDecodeTurned(t *testing.T) {
	x := Edit{Log: 3, Next: 5, Seq: 1000, Del: []int{1, 2}, Add: []Meta{meta(3, 2, "low", "mid"), meta(4, 0, "a", "b")}}
	b := x.Encode()
	count := 0
	for at := range b {
		for c := range 256 {
			turned := append([]byte(nil), b...)
			turned[at] = byte(c)
			y, e := Decode(turned)
			switch {
			case e == api.ErrForm && shown(y) == shown(Edit{}):
			case e == api.OK && string(y.Encode()) == string(turned):
				count++
			default:
				t.Fatalf("Decode of %x: %s %d", turned, shown(y), e)
			}
		}
	}
	if count < 1000 {
		t.Error(count)
	}
	r := dice(3)
	for range 20000 {
		short := make([]byte, r.roll(14))
		for i := range short {
			short[i] = byte(r.roll(4))
		}
		if y, e := Decode(short); e == api.OK && string(y.Encode()) != string(short) || e != api.OK && e != api.ErrForm {
			t.Fatalf("Decode of %x: %s %d", short, shown(y), e)
		}
	}
}

// P15.3: edits of all kinds are read as they were.
func TestDecodeRolled(t *testing.T) {
	r, v := dice(4), First()
	for i := range 2000 {
		if i%30 == 0 {
			v = First()
		}
		x := rolledEdit(&r, v)
		reads(t, string(x.Encode()), x)
		if w, e := v.Apply(x); e == api.OK {
			v = w
			reads(t, string(v.All().Encode()), v.All())
		}
	}
}

// P15.3: what is handed in stays as it is, and isn't kept.
func TestEncodeShares(t *testing.T) {
	x := Edit{Del: []int{4}, Add: []Meta{meta(3, 2, "low", "mid")}}
	had := shown(x)
	b := x.Encode()
	y, _ := Decode(b)
	clear(b)
	if shown(x) != had || shown(y) != had {
		t.Error(shown(x), shown(y))
	}
	// Numbers below 0 have no bytes of their own, but no panic either.
	Edit{Log: -1, Next: math.MinInt, Del: []int{-7}, Add: []Meta{{Num: -1, Level: -1, Size: -1}}}.Encode()
}

// P15.3: names, with a number in its usual form.
func TestNames(t *testing.T) {
	for n, s := range map[int]string{1: "1", 10: "10", MostNum: "1073741824", 0: "0"} {
		if Name(n) != "man."+s || FileName(n) != "file."+s {
			t.Error(Name(n), FileName(n))
		}
	}
	if !disk.Named(Name(MostNum)) || !disk.Named(FileName(MostNum)) || !disk.Named(Now) || !disk.Named(Soon) {
		t.Error("names that no file has")
	}
}
