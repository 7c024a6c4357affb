package store

import (
	"tailrace/api"
	"tailrace/key"
	"tailrace/num"
	"tailrace/record"
	"tailrace/wal"
)

// Put takes changes, all of them or none.
func (s *Store) Put(list []Change) api.Errno {
	if !s.made() || len(list) == 0 {
		return api.ErrArg
	}
	if len(list) > api.MaxBatch || s.seq+uint64(len(list)) > key.MaxSeq {
		return api.ErrMany
	}
	numbered := number(list, s.seq)
	text, e := lay(numbered)
	if e != api.OK {
		return e
	}
	if e := s.write(text); e != api.OK {
		return e
	}
	return s.take(numbered)
}

// number is changes with their numbers, which follow the last one's.
func number(list []Change, last uint64) []key.Entry {
	var all []key.Entry
	for _, x := range list {
		last++
		all = append(all, key.Entry{Key: x.Key, Seq: last, Del: x.Del, Val: x.Val})
	}
	return all
}

// lay is changes as a text of the log.
func lay(list []key.Entry) (string, api.Errno) {
	b := num.Put(nil, uint64(len(list)))
	for _, x := range list {
		if e := x.Check(); e != api.OK {
			return "", e
		}
		b = x.Put(b)
		if len(b) > record.Most {
			return "", api.ErrLong
		}
	}
	return string(b), api.OK
}

// parse is the changes of a text of the log, if it is one: there is one at least, and their numbers follow one another.
func parse(text string) ([]key.Entry, bool) {
	b := []byte(text)
	n, size, e := num.Get(b)
	if e != api.OK || n < 1 || n > api.MaxBatch {
		return nil, false
	}
	b = b[size:]
	var list []key.Entry
	for i := range n {
		x, size, e := key.Get(b)
		if e != api.OK || i > 0 && x.Seq != list[i-1].Seq+1 {
			return nil, false
		}
		list = append(list, x)
		b = b[size:]
	}
	return list, len(b) == 0
}

// write lays a text behind the log's, in a new part if the log can't be written to.
func (s *Store) write(text string) api.Errno {
	if !s.log.Opened() {
		n := s.nextPart()
		if s.lacksRoom(n, len(text)) {
			return api.ErrFull
		}
		if e := s.log.Start(n); e != api.OK {
			return e
		}
	}
	return s.log.Add(text)
}

// lacksRoom tells whether the disk would take no text of so many bytes once a part is started.
// It is asked ahead, because the part would stay of a Put that is refused; what else refuses the part is told by the log.
func (s *Store) lacksRoom(part, size int) bool {
	if part > wal.MaxPart || s.on.Down() {
		return false
	}
	first := record.Head + num.Size(uint64(s.log.Size()))
	// A file that has the part's name makes room; of none the Size is 0.
	inTheWay, _ := s.on.Size(wal.Name(part))
	return first+record.Head+size > s.on.Room()+inTheWay
}

// nextPart is the part that the log would start.
func (s *Store) nextPart() int {
	return max(s.log.Part()+1, s.man.Version().Log)
}

// take lets changes stand in memory, behind all ahead of them.
func (s *Store) take(list []key.Entry) api.Errno {
	for _, x := range list {
		if e := s.mem.Add(x); e != api.OK {
			return e
		}
		s.seq = x.Seq
	}
	return api.OK
}
