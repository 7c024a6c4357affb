package store

import (
	"math"

	"tailrace/api"
	"tailrace/cursor"
	"tailrace/edit"
	"tailrace/key"
)

// Get is a key's value as of a number.
func (s *Store) Get(name string, seq uint64) (string, bool, api.Errno) {
	if !s.made() {
		return "", false, api.ErrArg
	}
	x, ok, e := s.newest(name, seq)
	if !ok || x.Del {
		return "", false, e
	}
	return x.Val, true, api.OK
}

// Now is a key's value.
func (s *Store) Now(name string) (string, bool, api.Errno) {
	return s.Get(name, math.MaxUint64)
}

// newest is the newest change of a key, up to a number.
// Of one key memory has the newest changes, and each level newer ones than those beneath: so the first one that is found is the newest, and the files behind it needn't be looked at.
func (s *Store) newest(name string, seq uint64) (key.Entry, bool, api.Errno) {
	if x, ok := s.mem.Get(name, seq); ok {
		return x, true, api.OK
	}
	for _, list := range s.levels {
		for _, f := range list {
			if name < f.Low || name > f.High {
				continue
			}
			// By a number that no change may have a file has nothing.
			x, ok, e := s.files[f.Num].Get(name, min(seq, key.MaxSeq))
			if ok || e != api.OK {
				return x, ok, e
			}
		}
	}
	return key.Entry{}, false, api.OK
}

// Scan is keys from one on, up to another one (empty: no end), as of a number, so many at most.
func (s *Store) Scan(from, to string, seq uint64, most int) ([]Change, api.Errno) {
	if !s.made() {
		return nil, api.ErrArg
	}
	var list []Change
	for more := ahead(from, to); more && len(list) < most; {
		end := s.stretch(from, to)
		live, e := s.through(from, end).Live(from, end, min(seq, key.MaxSeq), most-len(list))
		if e != api.OK {
			return nil, e
		}
		for _, x := range live {
			list = append(list, Change{Key: x.Key, Val: x.Val})
		}
		more, from = end != to, end
	}
	return list, api.OK
}

// Prefix is all keys that begin so.
func (s *Store) Prefix(p string, most int) ([]Change, api.Errno) {
	return s.Scan(p, behind(p), math.MaxUint64, most)
}

// behind is the least text that is behind all that begin with p; empty, if there is none.
func behind(p string) string {
	b := []byte(p)
	for i := len(b) - 1; i >= 0; i-- {
		if b[i] < math.MaxUint8 {
			b[i]++
			return string(b[:i+1])
		}
	}
	return ""
}

// ahead tells whether a key is ahead of an end (empty: there is no end).
func ahead(name, end string) bool {
	return end == "" || name < end
}

// stretch is up to where, from a key on, no other file of the levels beneath the first begins.
// A scan goes stretch by stretch, so that of those levels, however many files they have, a file is looked at only when the scan comes to it.
func (s *Store) stretch(from, to string) string {
	for _, list := range s.levels[1:] {
		for _, f := range list {
			if f.Low > from && ahead(f.Low, to) {
				to = f.Low
			}
		}
	}
	return to
}

// through goes through all changes of the keys from one on, up to another one.
func (s *Store) through(from, to string) *cursor.Cursor {
	all := []*cursor.Cursor{cursor.List(s.inMemory(from, to))}
	for _, list := range s.levels {
		for _, f := range list {
			if f.High >= from && ahead(f.Low, to) {
				all = append(all, cursor.File(s.files[f.Num]))
			}
		}
	}
	return cursor.Many(all...)
}

// inMemory is those of them that stand in memory.
func (s *Store) inMemory(from, to string) []key.Entry {
	var list []key.Entry
	for i := s.mem.From(key.Entry{Key: from, Seq: key.MaxSeq}); ; i++ {
		x, ok := s.mem.At(i)
		if !ok || !ahead(x.Key, to) {
			return list
		}
		list = append(list, x)
	}
}

// read is all changes of files, in order.
func (s *Store) read(files []edit.Meta) ([]key.Entry, api.Errno) {
	var all []*cursor.Cursor
	for _, f := range files {
		all = append(all, cursor.File(s.files[f.Num]))
	}
	c := cursor.Many(all...)
	var list []key.Entry
	for {
		x, ok, e := c.Next()
		if e != api.OK {
			return nil, e
		}
		if !ok {
			return list, api.OK
		}
		list = append(list, x)
	}
}
