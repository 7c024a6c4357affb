package file

import (
	"tailrace/api"
	"tailrace/bloom"
	"tailrace/key"
	"tailrace/num"
	"tailrace/page"
	"tailrace/record"
)

// Make is a file's bytes: changes in order.
func Make(list []key.Entry) ([]byte, api.Errno) {
	if len(list) == 0 {
		return nil, api.ErrArg
	}
	if e := check(list); e != api.OK {
		return nil, e
	}
	b, index, e := layPages(list)
	if e != api.OK {
		return nil, e
	}
	end := ending{count: len(list)}
	if b, end.index, e = layPage(b, index); e != api.OK {
		return nil, e
	}
	filter, e := bloom.Make(names(list))
	if e != api.OK {
		return nil, e
	}
	if b, end.filter, e = lay(b, filter.Bytes()); e != api.OK {
		return nil, e
	}
	b, _, e = lay(b, end.bytes())
	return b, e
}

// check is the first error of changes: one that isn't right, or doesn't stand behind the one ahead.
func check(list []key.Entry) api.Errno {
	for i, x := range list {
		if e := x.Check(); e != api.OK {
			return e
		}
		if i > 0 && list[i-1].Cmp(x) >= 0 {
			return api.ErrArg
		}
	}
	return api.OK
}

// layPages lays the pages of changes; and what the page of their last Inners has of them.
func layPages(list []key.Entry) ([]byte, []page.Pair, api.Errno) {
	var b []byte
	var index []page.Pair
	for len(list) > 0 {
		n, _ := firstPage(list)
		var s span
		var e api.Errno
		if b, s, e = layPage(b, page.Of(list[:n])); e != api.OK {
			return nil, nil, e
		}
		index = append(index, page.Pair{Name: list[n-1].Inner(), Val: s.text()})
		list = list[n:]
	}
	return b, index, api.OK
}

// firstPage is how many of the changes the first page has, and whether it is full.
func firstPage(list []key.Entry) (int, bool) {
	size := 0
	for i, x := range list {
		size += len(x.Key) + len(x.Val)
		if size >= Full {
			return i + 1, true
		}
	}
	return len(list), false
}

// layPage lays a page of pairs as a record behind b, and tells where that stands.
func layPage(b []byte, pairs []page.Pair) ([]byte, span, api.Errno) {
	data, e := page.Make(pairs)
	if e != api.OK {
		return nil, span{}, e
	}
	return lay(b, data)
}

// lay lays a record behind b, and tells where it stands.
func lay(b, data []byte) ([]byte, span, api.Errno) {
	at := len(b)
	b, e := record.Put(b, data)
	if e != api.OK {
		return nil, span{}, e
	}
	return b, span{at: at, size: len(b) - at}, api.OK
}

// names is the keys of changes in order, each once.
func names(list []key.Entry) []string {
	var all []string
	for i, x := range list {
		if i == 0 || x.Key != list[i-1].Key {
			all = append(all, x.Key)
		}
	}
	return all
}

// span is where a record begins, and how many bytes it has.
type span struct {
	at   int
	size int
}

// text is a span as it stands in the page of the last Inners.
func (s span) text() string {
	return string(num.Put(num.Put(nil, uint64(s.at)), uint64(s.size)))
}

const (
	word    = 8                          // bytes of each number at a file's end
	numbers = 5                          // how many these are
	tail    = record.Head + numbers*word // bytes of their record
)

// ending is what the last record of a file tells: where the two ahead of it stand, and how many changes there are.
type ending struct {
	index  span
	filter span
	count  int
}

// bytes is an ending's bytes.
func (x ending) bytes() []byte {
	var b []byte
	for _, n := range []int{x.index.at, x.index.size, x.filter.at, x.filter.size, x.count} {
		b = num.PutLittle(b, uint64(n), word)
	}
	return b
}
