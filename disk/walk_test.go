package disk

import (
	"fmt"
	"slices"
	"strings"
	"testing"

	"tailrace/api"
)

// plainFile is a file as the document tells of it: what is sure, and behind it what isn't.
type plainFile struct{ name, sure, loose string }

// plain is a disk as the document tells of it, for the walk to hold the real one against.
type plain struct {
	room, fuse int
	off        bool
	files      []plainFile
}

func (p *plain) at(name string) int {
	return slices.IndexFunc(p.files, func(f plainFile) bool { return f.name == name })
}

func (p *plain) used() int {
	n := 0
	for _, f := range p.files {
		n += len(f.sure + f.loose)
	}
	return n
}

// try is the first error that applies; without one the turn is made, if the power stays.
func (p *plain) try(wrong bool, behind []bool, errs []api.Errno, turn func()) api.Errno {
	if wrong {
		return api.ErrArg
	}
	if p.off {
		return api.ErrDown
	}
	for i, b := range behind {
		if b {
			return errs[i]
		}
	}
	if p.fuse == 1 {
		p.fuse, p.off = 0, true
		return api.ErrDown
	}
	p.fuse = max(p.fuse-1, 0)
	turn()
	return api.OK
}

func (p *plain) drop(name string) {
	p.files = slices.DeleteFunc(p.files, func(f plainFile) bool { return f.name == name })
}

func (p *plain) create(name string) api.Errno {
	return p.try(name == "" || name == "A", []bool{p.at(name) >= 0}, []api.Errno{api.ErrHave}, func() {
		p.files = append(p.files, plainFile{name: name})
		slices.SortFunc(p.files, func(a, b plainFile) int { return strings.Compare(a.name, b.name) })
	})
}

func (p *plain) lay(name, s string) api.Errno {
	return p.try(false, []bool{p.at(name) < 0, p.used()+len(s) > p.room}, []api.Errno{api.ErrNone, api.ErrFull}, func() {
		p.files[p.at(name)].loose += s
	})
}

func (p *plain) sync(name string) api.Errno {
	return p.try(false, []bool{p.at(name) < 0}, []api.Errno{api.ErrNone}, func() {
		f := &p.files[p.at(name)]
		f.sure, f.loose = f.sure+f.loose, ""
	})
}

func (p *plain) rename(from, to string) api.Errno {
	return p.try(to == "" || to == "A", []bool{p.at(from) < 0}, []api.Errno{api.ErrNone}, func() {
		if from != to {
			p.drop(to)
			p.files[p.at(from)].name = to
		}
		slices.SortFunc(p.files, func(a, b plainFile) int { return strings.Compare(a.name, b.name) })
	})
}

func (p *plain) remove(name string) api.Errno {
	return p.try(false, []bool{p.at(name) < 0}, []api.Errno{api.ErrNone}, func() { p.drop(name) })
}

func (p *plain) crash(keep []int) {
	p.off, p.fuse = false, 0
	i := 0
	for at := range p.files {
		f := &p.files[at]
		if f.loose == "" {
			continue
		}
		n := 0
		if i < len(keep) {
			n = min(max(keep[i], 0), len(f.loose))
		}
		f.sure, f.loose = f.sure+f.loose[:n], ""
		i++
	}
}

// told is what told answers of the real one.
func (p *plain) told() string {
	s := fmt.Sprint("used ", p.used(), " room ", p.room-p.used(), " down ", p.off)
	for _, f := range p.files {
		if all := f.sure + f.loose; !p.off {
			s += fmt.Sprintf(" %s:%q:%d:0:0", f.name, all, len(all))
		}
	}
	return s
}

// dice is numbers with no pattern to speak of, the same ones in each run.
type dice uint64

func (d *dice) roll(n int) int {
	*d = *d*6364136223846793005 + 1442695040888963407
	return int((uint64(*d) >> 33) % uint64(n))
}

// walkStep does one thing to both disks, and tells what it was and what they answered.
func walkStep(r *dice, d *Disk, p *plain) (string, api.Errno, api.Errno) {
	names := []string{"a", "b", "c", "d.1", "", "A"}
	name, other := names[r.roll(len(names))], names[r.roll(len(names))]
	switch r.roll(12) {
	case 0, 1:
		return "Create " + name, d.Create(name), p.create(name)
	case 2, 3, 4, 5:
		s := "0123456789"[:r.roll(8)]
		return "Append " + name + " " + s, d.Append(name, []byte(s)), p.lay(name, s)
	case 6:
		return "Sync " + name, d.Sync(name), p.sync(name)
	case 7:
		return "Rename " + name + " " + other, d.Rename(name, other), p.rename(name, other)
	case 8:
		return "Remove " + name, d.Remove(name), p.remove(name)
	case 9:
		n := r.roll(12) - 2
		d.Fuse(n)
		if !p.off {
			p.fuse = max(n, 0)
		}
		return fmt.Sprint("Fuse ", n), api.OK, api.OK
	}
	keep := make([]int, r.roll(4))
	for i := range keep {
		keep[i] = r.roll(9) - 2
	}
	d.Crash(keep)
	p.crash(keep)
	return fmt.Sprint("Crash ", keep), api.OK, api.OK
}

// P4.1 to P4.3: many steps in many orders, on disks small and great, answer as the document's words do.
func TestWalk(t *testing.T) {
	for seed := range 60 {
		r := dice(seed)
		room := []int{0, 5, 30, 1000}[seed%4]
		d, p := New(room), &plain{room: room}
		for i := range 400 {
			what, got, want := walkStep(&r, d, p)
			if got != want || told(d) != p.told() {
				t.Fatalf("seed %d, step %d, %s: %d %s, want %d %s", seed, i, what, got, told(d), want, p.told())
			}
			if i%50 == 0 {
				d = d.Clone()
			}
		}
	}
}
