package page

import (
	"tailrace/api"
	"tailrace/num"
)

// reader takes a page's pairs off bytes, one behind the other.
// Once it is broken it has nothing left, and all that it answers is noughts, so that nobody need ask part by part.
type reader struct {
	rest   []byte
	broken bool // more was asked for than there is
}

// read is the pairs of a page's bytes, if these can be told apart: whether they are laid as a page's isn't asked.
func read(b []byte) ([]Pair, bool) {
	body, ok := cutPairs(b)
	if !ok {
		return nil, false
	}
	r := reader{rest: body}
	var list []Pair
	for len(r.rest) > 0 {
		list = append(list, r.pair(ahead(list, len(list))))
	}
	return list, !r.broken
}

// cutPairs is the bytes of a page's pairs: those ahead of the places, and of how many these are.
func cutPairs(b []byte) ([]byte, bool) {
	if len(b) < word {
		return nil, false
	}
	b, last := b[:len(b)-word], b[len(b)-word:]
	places := num.Little(last)
	if places > uint64(len(b)/word) {
		return nil, false
	}
	b = b[:len(b)-int(places)*word]
	// No more bytes are read than a page has: names that are laid short may come to eight times as many.
	return b, len(b) <= Most
}

// pair is the next pair, beside the name ahead.
func (r *reader) pair(ahead string) Pair {
	same, beyond, val := r.number(), r.number(), r.number()
	if same > uint64(len(ahead)) {
		r.stop()
		return Pair{}
	}
	name := ahead[:same] + r.text(beyond)
	return Pair{Name: name, Val: r.text(val)}
}

// number is the next number.
func (r *reader) number() uint64 {
	n, size, e := num.Get(r.rest)
	if e != api.OK {
		r.stop()
		return 0
	}
	r.rest = r.rest[size:]
	return n
}

// text is the next n bytes.
func (r *reader) text(n uint64) string {
	// The number is held against the bytes as it is: as an int it might be below 0.
	if n > uint64(len(r.rest)) {
		r.stop()
		return ""
	}
	s := string(r.rest[:n])
	r.rest = r.rest[n:]
	return s
}

// stop leaves nothing to take.
func (r *reader) stop() {
	r.broken, r.rest = true, nil
}
