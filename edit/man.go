package edit

import (
	"slices"
	"strconv"

	"tailrace/api"
	"tailrace/disk"
	"tailrace/num"
	"tailrace/record"
)

// Name is the name of the n-th list of edits.
func Name(n int) string {
	return "man." + strconv.Itoa(n)
}

// FileName is the name of a file.
func FileName(n int) string {
	return "file." + strconv.Itoa(n)
}

// Now is the file that says which list counts, and Soon the one that comes in its place.
const (
	Now  = "now"
	Soon = "soon"
)

// Man is the list of edits on a disk, and the version that they make.
type Man struct {
	on      *disk.Disk
	version Version
	number  int // which list counts; 0: there is none
	size    int // bytes of the list's records, if this Man made it; else 0
}

// Load reads what there is: the version that was there last.
func Load(d *disk.Disk) (*Man, api.Errno) {
	if d == nil {
		return nil, api.ErrArg
	}
	b, e := d.Read(Now, 0, disk.MaxRoom)
	if e == api.ErrNone {
		return &Man{on: d, version: First()}, api.OK
	}
	if e != api.OK {
		return nil, e
	}
	n, ok := readNow(b)
	if !ok {
		return nil, api.ErrBad
	}
	v, e := readList(d, Name(n))
	if e != api.OK {
		return nil, e
	}
	return &Man{on: d, version: v, number: n}, api.OK
}

// readNow is the number of the list that counts, if the bytes are its record and nothing else.
func readNow(b []byte) (int, bool) {
	data, whole, e := record.Next(b)
	if e != api.OK || whole != len(b) {
		return 0, false
	}
	n, size, e := num.Get(data)
	// The bounds are asked of the number as it is: as an int it might be below 0.
	if e != api.OK || size != len(data) || n < 1 || n > MostNum {
		return 0, false
	}
	return int(n), true
}

// readList is the version that a list's edits make. A list that counts has one edit at least, which was sure ahead of Now.
func readList(d *disk.Disk, name string) (Version, api.Errno) {
	b, e := d.Read(name, 0, disk.MaxRoom)
	if e == api.ErrNone {
		return Version{}, api.ErrBad
	}
	if e != api.OK {
		return Version{}, e
	}
	list, _, e := record.All(b)
	if e != api.OK || len(list) == 0 {
		return Version{}, api.ErrBad
	}
	v := First()
	for _, data := range list {
		x, e := Decode(data)
		if e != api.OK {
			return Version{}, api.ErrBad
		}
		if v, e = v.Apply(x); e != api.OK {
			return Version{}, api.ErrBad
		}
	}
	return v, api.OK
}

// Version is what there is.
func (m *Man) Version() Version {
	if m == nil {
		return Version{}
	}
	v := m.version
	v.Files = slices.Clone(v.Files)
	return v
}

// Number is which list it is.
func (m *Man) Number() int {
	if m == nil {
		return 0
	}
	return m.number
}

// Named is all names that count: those of files, of the list, and the one that says which.
func (m *Man) Named() []string {
	if m == nil || m.number == 0 {
		return nil
	}
	list := []string{Now, Name(m.number)}
	for _, f := range m.version.Files {
		list = append(list, FileName(f.Num))
	}
	slices.Sort(list)
	return list
}

// Do lets an edit last: what there is is other then.
func (m *Man) Do(x Edit) api.Errno {
	// A Man that Load didn't make has no disk.
	if m == nil || m.on == nil {
		return api.ErrArg
	}
	v, e := m.version.Apply(x)
	if e != api.OK {
		return e
	}
	if m.on.Down() {
		return api.ErrDown
	}
	goes, e := m.goesOn()
	switch {
	case e != api.OK:
		return e
	case goes:
		return m.goOn(x, v)
	}
	return m.begin(v)
}

// goesOn tells whether an edit can stand behind those of the list.
// A crash may leave bytes of an edit that this Man doesn't count: what stood behind them would make another version, or none.
func (m *Man) goesOn() (bool, api.Errno) {
	if m.size == 0 {
		return false, api.OK
	}
	size, e := m.on.Size(Name(m.number))
	return size == m.size, e
}

// goOn lays an edit behind the list's, of which v comes to be.
func (m *Man) goOn(x Edit, v Version) api.Errno {
	d, name := m.on, Name(m.number)
	b, e := record.Put(nil, x.Encode())
	if e != api.OK {
		return e
	}
	return inTurn(
		func() api.Errno { return d.Append(name, b) },
		func() api.Errno { return d.Sync(name) },
		func() api.Errno {
			m.version, m.size = v, m.size+len(b)
			return api.OK
		},
	)
}

// begin makes a new list, of one edit that makes v. Up to the last step on the disk it is the old list that counts.
func (m *Man) begin(v Version) api.Errno {
	n := m.number + 1
	if n > MostNum {
		return api.ErrMany
	}
	first, e := record.Put(nil, v.All().Encode())
	if e != api.OK {
		return e
	}
	now, e := record.Put(nil, num.Put(nil, uint64(n)))
	if e != api.OK {
		return e
	}
	d := m.on
	if len(first)+len(now) > d.Room() {
		return api.ErrFull
	}
	return inTurn(
		leaving(d, Name(n)),
		leaving(d, Soon),
		making(d, Name(n), first),
		making(d, Soon, now),
		func() api.Errno { return d.Rename(Soon, Now) },
		func() api.Errno {
			m.version, m.number, m.size = v, n, len(first)
			return api.OK
		},
	)
}

// step is something that is done, and its error.
type step func() api.Errno

// inTurn does one step behind the other, up to one that has an error.
func inTurn(steps ...step) api.Errno {
	for _, do := range steps {
		if e := do(); e != api.OK {
			return e
		}
	}
	return api.OK
}

// leaving is the step behind which there is no file of a name.
func leaving(d *disk.Disk, name string) step {
	return func() api.Errno {
		if e := d.Remove(name); e != api.ErrNone {
			return e
		}
		return api.OK
	}
}

// making is the step behind which there is a file of these bytes, all of them sure.
func making(d *disk.Disk, name string, b []byte) step {
	return func() api.Errno {
		return inTurn(
			func() api.Errno { return d.Create(name) },
			func() api.Errno { return d.Append(name, b) },
			func() api.Errno { return d.Sync(name) },
		)
	}
}
