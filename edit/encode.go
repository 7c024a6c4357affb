package edit

import (
	"tailrace/api"
	"tailrace/disk"
	"tailrace/key"
	"tailrace/num"
	"tailrace/wal"
)

// Encode is an edit's bytes.
func (e Edit) Encode() []byte {
	b := putInt(nil, e.Log)
	b = putInt(b, e.Next)
	b = num.Put(b, e.Seq)
	b = putInt(b, len(e.Del))
	for _, n := range e.Del {
		b = putInt(b, n)
	}
	b = putInt(b, len(e.Add))
	for _, f := range e.Add {
		b = f.put(b)
	}
	return b
}

// put lays a file's number and what else is told of it.
func (f Meta) put(b []byte) []byte {
	for _, n := range []int{f.Num, f.Level, f.Size} {
		b = putInt(b, n)
	}
	return putText(putText(b, f.Low), f.High)
}

// putInt lays a number. One below 0 is laid as 0: as Log and as Next both say nothing, so that what Do lays is read as what it did.
func putInt(b []byte, n int) []byte {
	return num.Put(b, uint64(max(n, 0)))
}

func putText(b []byte, s string) []byte {
	return append(putInt(b, len(s)), s...)
}

// Decode is the edit of bytes.
func Decode(b []byte) (Edit, api.Errno) {
	r := reader{rest: b}
	e := Edit{Log: r.integer(wal.MaxPart), Next: r.integer(MostNum), Seq: r.number(key.MaxSeq)}
	for range r.integer(MostFiles) {
		e.Del = append(e.Del, r.integer(MostNum))
	}
	for range r.integer(MostFiles) {
		e.Add = append(e.Add, r.meta())
	}
	if r.broken || len(r.rest) > 0 {
		return Edit{}, api.ErrForm
	}
	return e, api.OK
}

// reader takes an edit's parts off bytes, one behind the other.
// Once it is broken it has nothing left, and all that it answers is noughts, so that nobody need ask part by part.
type reader struct {
	rest   []byte
	broken bool // something isn't there, or is above its bound
}

// number is the next number, which is at most so great.
func (r *reader) number(most uint64) uint64 {
	n, size, e := num.Get(r.rest)
	if e != api.OK || n > most {
		r.stop()
		return 0
	}
	r.rest = r.rest[size:]
	return n
}

// integer is the next number, whose bound is one of an int.
func (r *reader) integer(most uint64) int {
	return int(r.number(most))
}

// text is the next text, that stands behind its length.
func (r *reader) text() string {
	n := r.integer(api.MaxKey)
	if n > len(r.rest) {
		r.stop()
		return ""
	}
	s := string(r.rest[:n])
	r.rest = r.rest[n:]
	return s
}

// meta is the next file.
func (r *reader) meta() Meta {
	f := Meta{Num: r.integer(MostNum), Level: r.integer(Levels - 1), Size: r.integer(disk.MaxRoom)}
	f.Low, f.High = r.text(), r.text()
	return f
}

// stop leaves nothing to take.
func (r *reader) stop() {
	r.broken, r.rest = true, nil
}
