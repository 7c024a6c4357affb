package file

import (
	"strings"

	"tailrace/api"
	"tailrace/key"
	"tailrace/num"
	"tailrace/page"
	"tailrace/record"
)

// read is the bytes of the record that stands in a span, and fills it.
func (x *File) read(s span) ([]byte, api.Errno) {
	b, e := x.on.Read(x.name, s.at, s.size)
	if e == api.ErrDown {
		return nil, e
	}
	// A file that is gone, or has no such place, isn't what was written either.
	if e != api.OK {
		return nil, api.ErrBad
	}
	data, size, e := record.Next(b)
	if e != api.OK || size != s.size {
		return nil, api.ErrBad
	}
	return data, api.OK
}

// parseEnding is the ending that the bytes of its record tell, if it is that of a file with so many bytes ahead of it.
func parseEnding(b []byte, ahead int) (ending, bool) {
	var n [numbers]int
	for i := range n {
		u := num.Little(b[i*word:])
		// The number is held against the length as it is: as an int it might be below 0.
		if u > uint64(ahead) {
			return ending{}, false
		}
		n[i] = int(u)
	}
	x := ending{index: span{at: n[0], size: n[1]}, filter: span{at: n[2], size: n[3]}, count: n[4]}
	// The two records stand one behind the other, and nothing between them and the ending.
	if x.index.at+x.index.size != x.filter.at || x.filter.at+x.filter.size != ahead {
		return ending{}, false
	}
	return x, true
}

// parseIndex is the last changes of all pages, and where these stand, if the pages fill the bytes up to end.
func parseIndex(b []byte, end int) ([]key.Entry, []span, bool) {
	p, e := page.Parse(b)
	if e != api.OK {
		return nil, nil, false
	}
	var lasts []key.Entry
	var spans []span
	at := 0
	for _, x := range p.All() {
		last, e := key.Outer(x.Name)
		size, ok := parseSize(x.Val, at, end)
		if e != api.OK || !ok {
			return nil, nil, false
		}
		lasts = append(lasts, last)
		spans = append(spans, span{at: at, size: size})
		at += size
	}
	return lasts, spans, len(lasts) > 0 && at == end && check(lasts) == api.OK
}

// parseSize is how many bytes a span has that begins at a place, and ends at another one at most.
func parseSize(text string, at, end int) (int, bool) {
	rest, ok := strings.CutPrefix(text, string(num.Put(nil, uint64(at))))
	if !ok {
		return 0, false
	}
	size, n, e := num.Get([]byte(rest))
	if e != api.OK || n != len(rest) || size > uint64(end-at) {
		return 0, false
	}
	return int(size), true
}

// changes is the changes of which a page has the pairs; whether they stand in order isn't asked.
func changes(pairs []page.Pair) ([]key.Entry, bool) {
	var list []key.Entry
	for _, p := range pairs {
		x, e := key.Outer(p.Name)
		if e != api.OK {
			return nil, false
		}
		x.Val = p.Val
		list = append(list, x)
	}
	return list, true
}
