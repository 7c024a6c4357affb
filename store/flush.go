package store

import (
	"maps"
	"slices"

	"tailrace/api"
	"tailrace/edit"
	"tailrace/file"
	"tailrace/key"
	"tailrace/level"
	"tailrace/mem"
	"tailrace/wal"
)

// Flush makes what stands in memory a file; the log begins anew.
func (s *Store) Flush() api.Errno {
	if !s.made() {
		return api.ErrArg
	}
	if s.on.Down() {
		return api.ErrDown
	}
	if s.mem.Len() == 0 {
		return api.OK
	}
	v := s.man.Version()
	if v.Next == edit.MostNum || len(v.Files) == edit.MostFiles {
		return api.ErrMany
	}
	// What comes behind this Flush stands in a part of its own, so that the parts ahead needn't count any more.
	if e := s.log.Start(s.nextPart()); e != api.OK {
		return e
	}
	kept := level.Keep(s.mem.All(), s.held(), false)
	x := edit.Edit{Log: s.log.Part(), Seq: s.seq}
	if e := s.turn(x, [][]key.Entry{kept}, 0); e != api.OK {
		return e
	}
	s.mem = mem.New()
	return api.OK
}

// Compact does what is to be done with files, one thing; whether there was one.
func (s *Store) Compact() (bool, api.Errno) {
	if !s.made() {
		return false, api.ErrArg
	}
	if s.on.Down() {
		return false, api.ErrDown
	}
	v := s.man.Version()
	job, ok := level.Pick(v, s.conf)
	if !ok {
		return false, api.OK
	}
	list, e := s.read(job.In)
	if e != api.OK {
		return false, e
	}
	kept := level.Keep(list, s.held(), level.Bottom(v, job))
	parts := level.Cut(kept, s.conf.Cut)
	if v.Next+len(parts) > edit.MostNum {
		return false, api.ErrMany
	}
	var x edit.Edit
	for _, f := range job.In {
		x.Del = append(x.Del, f.Num)
	}
	if e := s.turn(x, parts, job.Out); e != api.OK {
		return false, e
	}
	return true, api.OK
}

// held is the numbers by which what is seen must stay.
func (s *Store) held() []uint64 {
	return slices.Sorted(maps.Keys(s.snaps))
}

// turn makes parts of changes files of a level, and lets an edit last that adds them.
// If that can't be, they are removed again. An edit may last in spite of its error only if the power went: then they stay, too, as nothing can be removed.
func (s *Store) turn(x edit.Edit, parts [][]key.Entry, out int) api.Errno {
	next := s.man.Version().Next
	x.Next = next + len(parts)
	files, e := s.makeFiles(&x, parts, next, out)
	if e == api.OK {
		e = s.man.Do(x)
	}
	if e != api.OK {
		s.remove(next, x.Next)
		return e
	}
	for _, n := range x.Del {
		delete(s.files, n)
	}
	maps.Copy(s.files, files)
	s.sort()
	return api.OK
}

// makeFiles makes parts files of the numbers from next on, that the edit adds, and opens them.
func (s *Store) makeFiles(x *edit.Edit, parts [][]key.Entry, next, out int) (map[int]*file.File, api.Errno) {
	// What a crash left by their names would be in the way, and take room.
	if e := s.remove(next, next+len(parts)); e != api.OK {
		return nil, e
	}
	files := make(map[int]*file.File)
	for i, list := range parts {
		n := next + i
		size, e := file.Write(s.on, edit.FileName(n), list)
		if e != api.OK {
			return nil, e
		}
		if files[n], e = file.Open(s.on, edit.FileName(n)); e != api.OK {
			return nil, e
		}
		x.Add = append(x.Add, edit.Meta{Num: n, Level: out, Low: files[n].Low(), High: files[n].High(), Size: size})
	}
	return files, api.OK
}

// remove removes the files of the numbers from one on, up to another one, as far as they are there.
func (s *Store) remove(from, to int) api.Errno {
	for n := from; n < to; n++ {
		if e := s.on.Remove(edit.FileName(n)); e != api.OK && e != api.ErrNone {
			return e
		}
	}
	return api.OK
}

// Live is the names of all files that count, in order.
func (s *Store) Live() []string {
	if !s.made() {
		return nil
	}
	list := s.man.Named()
	for n := s.man.Version().Log; n <= s.log.Part(); n++ {
		list = append(list, wal.Name(n))
	}
	slices.Sort(list)
	return list
}

// Clean takes all files away that don't count: how many.
func (s *Store) Clean() (int, api.Errno) {
	if !s.made() {
		return 0, api.ErrArg
	}
	if s.on.Down() {
		return 0, api.ErrDown
	}
	live := s.Live()
	count := 0
	for _, name := range s.on.List() {
		if _, counts := slices.BinarySearch(live, name); counts {
			continue
		}
		if e := s.on.Remove(name); e != api.OK {
			return count, e
		}
		count++
	}
	return count, api.OK
}
