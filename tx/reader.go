package tx

import (
	"tailrace/api"
	"tailrace/num"
)

// reader takes a transaction's parts off bytes, one behind the other.
// It notes its first error; behind that it takes nothing, and all that it answers is noughts, so that nobody need ask part by part.
type reader struct {
	b    []byte
	at   int       // how many bytes are taken
	ends api.Errno // the error, if more is asked for than there is
	e    api.Errno // the first error
}

// readerOf is a reader of what a transaction may have of b: one that goes on beyond that has no right form, however b goes on.
func readerOf(b []byte) *reader {
	if len(b) > api.MaxTx {
		return &reader{b: b[:api.MaxTx], ends: api.ErrForm}
	}
	return &reader{b: b, ends: api.ErrShort}
}

// note keeps the first error.
func (r *reader) note(e api.Errno) {
	if r.e == api.OK {
		r.e = e
	}
}

// take is the next n bytes; none, if there was an error.
func (r *reader) take(n int) []byte {
	if n > len(r.b)-r.at {
		r.note(r.ends)
	}
	if r.e != api.OK {
		return nil
	}
	part := r.b[r.at : r.at+n]
	r.at += n
	return part
}

// number is a number of so many bytes.
func (r *reader) number(size int) uint64 {
	return num.Little(r.take(size))
}

// hash is a digest.
func (r *reader) hash() api.Hash {
	var h api.Hash
	copy(h[:], r.take(len(h)))
	return h
}

// count is a count that is at most most.
func (r *reader) count(most uint64) int {
	n, size, e := num.Expand(r.b[r.at:])
	switch {
	case e == api.ErrShort:
		r.note(r.ends)
	case e != api.OK:
		r.note(e)
	case n > most:
		r.note(api.ErrForm)
	}
	r.take(size)
	if r.e != api.OK {
		return 0
	}
	return int(n)
}

// text is a script, or a part of a witness.
func (r *reader) text() string {
	return string(r.take(r.count(MostScript)))
}

// witnesses takes the signs that tell witnesses, if they are there.
func (r *reader) witnesses() bool {
	rest := r.b[r.at:]
	if r.e != api.OK || len(rest) < 2 || rest[0] != noIns || rest[1] != told {
		return false
	}
	r.take(2)
	return true
}

// tx is a transaction, and whether witnesses were told.
func (r *reader) tx() (Tx, bool) {
	t := Tx{Version: int32(r.number(4))}
	witnesses := r.witnesses()
	for n := r.count(api.MaxList); n > 0 && r.e == api.OK; n-- {
		t.Ins = append(t.Ins, r.in())
	}
	for n := r.count(api.MaxList); n > 0 && r.e == api.OK; n-- {
		t.Outs = append(t.Outs, r.out())
	}
	if witnesses {
		for i := range t.Ins {
			t.Ins[i].Witness = r.parts()
		}
	}
	t.Lock = uint32(r.number(4))
	return t, witnesses
}

// in is an input, without its witness.
func (r *reader) in() In {
	var x In
	x.From.Id = r.hash()
	x.From.Out = uint32(r.number(4))
	x.Script = r.text()
	x.Seq = uint32(r.number(4))
	return x
}

// out is an output.
func (r *reader) out() Out {
	var x Out
	x.Coins = int64(r.number(8))
	x.Script = r.text()
	return x
}

// parts is an input's witness.
func (r *reader) parts() []string {
	var list []string
	for n := r.count(MostParts); n > 0 && r.e == api.OK; n-- {
		list = append(list, r.text())
	}
	return list
}
