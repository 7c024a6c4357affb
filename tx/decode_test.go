package tx

import (
	"bytes"
	"slices"
	"strings"
	"testing"

	"tailrace/api"
)

// checkDecode tells whether an answer is what it should be, beside an error noughts, and what was given stays.
func checkDecode(t *testing.T, what string, b []byte, want Tx, n int, e api.Errno) {
	t.Helper()
	had := bytes.Clone(b)
	got, gotN, gotE := Decode(b)
	if !same(got, want) || gotN != n || gotE != e {
		t.Errorf("Decode %s: %d, %d, want %d, %d", what, gotN, gotE, n, e)
	}
	if gotE != api.OK && (got.Ins != nil || got.Outs != nil) {
		t.Errorf("Decode %s: lists beside an error", what)
	}
	if !bytes.Equal(b, had) {
		t.Errorf("Decode %s turned what it was given", what)
	}
}

func checkRefused(t *testing.T, what string, b []byte, e api.Errno) {
	t.Helper()
	checkDecode(t, what, b, Tx{}, 0, e)
}

// join is bytes one behind the other.
func join(list ...[]byte) []byte {
	return slices.Concat(list...)
}

// Pieces of a transaction, of which wrong ones are put together.
var (
	version = []byte{1, 0, 0, 0}
	flag    = []byte{0, 1}
	lock    = []byte{9, 0, 0, 0}
)

// input is an input with a script.
func input(script []byte) []byte {
	return join(make([]byte, 36), script, []byte{5, 0, 0, 0})
}

// output is an output with a script.
func output(script []byte) []byte {
	return join(make([]byte, 8), script)
}

// P7.2, P7.4: what is encoded is decoded as it was, whatever comes behind it.
func TestDecodeEncoded(t *testing.T) {
	for i, x := range samples() {
		b, e := x.Encode()
		if e != api.OK {
			continue
		}
		for _, behind := range [][]byte{nil, {0}, {0, 1}, {255, 255, 255}, b, make([]byte, api.MaxTx)} {
			checkDecode(t, "of a sample", join(b, behind), x, len(b), api.OK)
		}
		y, _, _ := Decode(b)
		if y.Id() != x.Id() || bare(y).Id() != x.Id() {
			t.Errorf("sample %d has another Id when it is decoded", i)
		}
		// What is decoded hangs no more on the bytes.
		for j := range b {
			b[j]++
		}
		if !same(x, y) {
			t.Errorf("sample %d shares memory with its bytes", i)
		}
	}
}

// P7.2: cut anywhere, it is too short.
func TestDecodeCut(t *testing.T) {
	for _, x := range samples() {
		b, e := x.Encode()
		if e != api.OK {
			continue
		}
		step := 1 + len(b)/2000
		for n := 0; n < len(b); n += step {
			checkRefused(t, "of a beginning", b[:n], api.ErrShort)
		}
		checkRefused(t, "without its last byte", b[:len(b)-1], api.ErrShort)
	}
}

// P7.2: lists of one answer share no memory.
func TestDecodeShares(t *testing.T) {
	x := Tx{Ins: []In{{Witness: []string{"a"}}, {Witness: []string{"b", "c"}}, {Witness: []string{"d"}}}, Outs: outs(1)}
	b, _ := x.Encode()
	y, _, _ := Decode(b)
	for i := range y.Ins {
		y.Ins[i].Witness = append(y.Ins[i].Witness, "z")
		y.Ins[i].Witness[0] += "y"
	}
	for i, want := range [][]string{{"ay", "z"}, {"by", "c", "z"}, {"dy", "z"}} {
		if !slices.Equal(y.Ins[i].Witness, want) {
			t.Errorf("witness %d: %q, want %q", i, y.Ins[i].Witness, want)
		}
	}
	if z, _, _ := Decode(b); !same(x, z) {
		t.Error("a second answer shares memory with the first")
	}
}

// wrongCounts are counts of which each is wrong with its last byte, whatever the bound.
func wrongCounts() [][]byte {
	return [][]byte{
		{253, 0, 0},
		{253, 1, 0},
		{253, 252, 0},
		{254, 0, 0, 0, 0},
		{254, 1, 0, 0, 0},
		{254, 255, 255, 0, 0},
		{255, 0, 0, 0, 0, 0, 0, 0, 0},
		{255, 1, 0, 0, 0, 0, 0, 0, 0},
		{255, 255, 255, 255, 255, 0, 0, 0, 0},
		{254, 0, 0, 1, 0},
		{254, 255, 255, 255, 255},
		{255, 0, 0, 0, 0, 1, 0, 0, 0},
		{255, 0, 0, 0, 0, 0, 0, 0, 128},
		{255, 255, 255, 255, 255, 255, 255, 255, 127},
		{255, 255, 255, 255, 255, 255, 255, 255, 255},
	}
}

// P7.2: a count that is wrong, at each place where one stands: too short till it is whole, then wrong, whatever is behind it.
func TestDecodeCounts(t *testing.T) {
	none, one := []byte{0}, []byte{1}
	in, out := join(one, input(none)), join(one, output(none))
	for _, place := range []struct {
		what  string
		ahead []byte
		most  int
	}{
		{"Ins", version, api.MaxList},
		{"Ins with witnesses", join(version, flag), api.MaxList},
		{"In's Script", join(version, one, make([]byte, 36)), MostScript},
		{"second In's Script", join(version, []byte{2}, input(none), make([]byte, 36)), MostScript},
		{"Outs", join(version, in), api.MaxList},
		{"Outs without Ins", join(version, none), api.MaxList},
		{"Out's Script", join(version, in, one, make([]byte, 8)), MostScript},
		{"Out's Script with witnesses", join(version, flag, in, one, make([]byte, 8)), MostScript},
		{"parts", join(version, flag, in, out), MostParts},
		{"second In's parts", join(version, flag, []byte{2}, input(none), input(none), out, none), MostParts},
		{"a part", join(version, flag, in, out, one), MostScript},
		{"second part", join(version, flag, in, out, []byte{2}, none), MostScript},
	} {
		for _, count := range append(wrongCounts(), laid(place.most+1), laid(place.most+300)) {
			for n := range count {
				checkRefused(t, place.what, join(place.ahead, count[:n]), api.ErrShort)
			}
			for _, behind := range [][]byte{nil, {0}, make([]byte, 200), make([]byte, 2*api.MaxTx)} {
				checkRefused(t, place.what, join(place.ahead, count, behind), api.ErrForm)
			}
		}
		// The bound itself is right so far.
		checkRefused(t, place.what, join(place.ahead, laid(place.most)), api.ErrShort)
	}
}

// P7.2: no Ins, no Outs, no parts are told in the end: what is cut ahead of it is too short, and other errors come first.
func TestDecodeInTheEnd(t *testing.T) {
	none, one, two := []byte{0}, []byte{1}, []byte{2}
	in, out := join(one, input(none)), join(one, output(none))
	for what, b := range map[string][]byte{
		"no Ins, no Outs":              join(version, none, none, lock),
		"no Ins, two Outs":             join(version, none, two, output(none), output(none), lock),
		"no Outs":                      join(version, in, none, lock),
		"two Ins, no Outs":             join(version, two, input(none), input(none), none, lock),
		"witnesses, no Ins":            join(version, flag, none, out, lock),
		"witnesses, no Ins, no Outs":   join(version, flag, none, none, lock),
		"witnesses, 0 and 1 once more": join(version, flag, flag, output(none), lock),
		"witnesses, no Outs":           join(version, flag, in, none, one, one, []byte("w"), lock),
		"witnesses, no parts":          join(version, flag, in, out, none, lock),
		"witnesses, twice no parts":    join(version, flag, two, input(none), input(none), out, none, none, lock),
	} {
		for n := range b {
			checkRefused(t, what+", cut", b[:n], api.ErrShort)
		}
		checkRefused(t, what, b, api.ErrForm)
		checkRefused(t, what+", and more", append(b, 0), api.ErrForm)
	}
	// 0 and another than 1 tell no witnesses: there are no inputs, and that many outputs.
	for _, c := range []byte{0, 2, 3, 100, 252} {
		b := join(version, none, []byte{c}, bytes.Repeat(output(none), int(c)), lock)
		checkRefused(t, "0 and another", b[:len(b)-1], api.ErrShort)
		checkRefused(t, "0 and another", b, api.ErrForm)
	}
	checkRefused(t, "0 alone", join(version, none), api.ErrShort)
	// One input of several with parts is enough.
	want := Tx{Version: 1, Ins: []In{{Seq: 5}, {Seq: 5, Witness: []string{""}}}, Outs: []Out{{}}, Lock: 9}
	b := join(version, flag, two, input(none), input(none), out, none, one, none, lock)
	checkDecode(t, "one with parts", b, want, len(b), api.OK)
}

// P7.2: of more than MaxTx bytes the first MaxTx count: what they don't hold whole has no right form.
func TestDecodeLong(t *testing.T) {
	for _, witness := range []bool{false, true} {
		for size := api.MaxTx - 12; size <= api.MaxTx+12; size++ {
			x := full(size, witness)
			b := plain(x, witness)
			if size <= api.MaxTx {
				checkDecode(t, "of the longest", b, x, size, api.OK)
				checkDecode(t, "of the longest, and more", append(b, 7), x, size, api.OK)
				checkDecode(t, "of the longest, and much more", append(b, make([]byte, api.MaxTx)...), x, size, api.OK)
				checkRefused(t, "of the longest, cut", b[:size-1], api.ErrShort)
				continue
			}
			checkRefused(t, "of a longer one", b, api.ErrForm)
			checkRefused(t, "of a longer one, and more", append(b, 7), api.ErrForm)
			checkRefused(t, "of a longer one, cut to MaxTx", b[:api.MaxTx], api.ErrShort)
			checkRefused(t, "of a longer one, cut behind MaxTx", b[:api.MaxTx+1], api.ErrForm)
		}
	}
}

// P7.2: counts and numbers that stand across the MaxTx-th byte.
func TestDecodeAcrossTheEnd(t *testing.T) {
	x := Tx{Ins: []In{{}}, Outs: []Out{{}}}
	for range 6 {
		x.Outs = append(x.Outs, Out{Script: strings.Repeat("x", MostScript)})
	}
	x.Outs = append(x.Outs, Out{}, Out{Script: strings.Repeat("y", 300)}, Out{})
	for shift := range 340 {
		y := deep(x)
		y.Outs[7].Script = strings.Repeat("z", api.MaxTx-len(plain(x, false))-2+shift)
		b := plain(y, false)
		if len(b) <= api.MaxTx {
			checkDecode(t, "ahead of the end", append(b, 1, 2, 3), y, len(b), api.OK)
			continue
		}
		checkRefused(t, "across the end", b, api.ErrForm)
		checkRefused(t, "across the end, cut there", b[:api.MaxTx], api.ErrShort)
	}
}

// checkWalk tells whether beginnings of b, the longer ones behind the shorter ones, are too short up to one place, and behind it all have one answer: each error comes with its byte.
// What is right is the one form of what it says.
func checkWalk(t *testing.T, b []byte) {
	t.Helper()
	x, n, e := Decode(b)
	if e == api.OK {
		if again, e := x.Encode(); e != api.OK || !bytes.Equal(again, b[:n]) {
			t.Errorf("Decode(%x): another form is %x, %d", b, again, e)
		}
	}
	at := len(b)
	for at > 0 {
		if _, _, e := Decode(b[:at-1]); e == api.ErrShort {
			break
		}
		at--
	}
	for size := range b {
		y, m, f := Decode(b[:size])
		if size < at {
			if f != api.ErrShort || m != 0 {
				t.Errorf("Decode of %d bytes of %x: %d, %d, want ErrShort", size, b, m, f)
			}
		} else if f != e || m != n || !same(x, y) {
			t.Errorf("Decode of %d bytes of %x: %d, %d, want %d, %d", size, b, m, f, n, e)
		}
	}
	if e == api.OK && at != n {
		t.Errorf("Decode(%x): %d bytes, but %d are needed", b, n, at)
	}
}

// P7.2: each byte of some transactions turned to others, and some bytes with no pattern.
func TestDecodeTurned(t *testing.T) {
	for _, x := range []Tx{
		small(),
		{Version: 2, Ins: []In{{Script: "ab", Seq: 5}}, Outs: []Out{{258, "c"}, {9, ""}}, Lock: 9},
		{Ins: []In{{Witness: []string{"", "v"}}, {}}, Outs: []Out{{1, "d"}}},
	} {
		b, e := x.Encode()
		if e != api.OK {
			t.Fatal(e)
		}
		b = append(b, 1, 2)
		for i := range b {
			for _, c := range []byte{0, 1, 2, 3, 9, 100, 101, 252, 253, 254, 255} {
				turned := bytes.Clone(b)
				turned[i] = c
				checkWalk(t, turned)
			}
		}
	}
	state := uint32(1)
	for range 3000 {
		b := join(version, make([]byte, 150))
		for i := 4; i < len(b); i++ {
			state = state*1664525 + 1013904223
			// Small numbers, mostly, so that some of them are read far in.
			b[i] = byte(state>>24) % []byte{2, 3, 4, 255}[state>>16&3]
		}
		checkWalk(t, b)
	}
}

// P7.2: whatever is given, there is an answer.
func FuzzDecode(f *testing.F) {
	for _, x := range samples()[:5] {
		b, _ := x.Encode()
		f.Add(b)
	}
	f.Fuzz(func(t *testing.T, b []byte) {
		if len(b) <= 1000 {
			checkWalk(t, b)
		}
	})
}
