package edit

import (
	"fmt"
	"slices"
	"testing"

	"tailrace/api"
	"tailrace/disk"
)

// P15.5: the steps of a new list on the disk, one behind the other: what is there if the power goes at each of them.
func TestSteps(t *testing.T) {
	list, other := edits(script[0]), edits(states[2].All())
	unsure := func(name, text string) string { return fmt.Sprintf("%s:%x:0 ", name, text) }
	old, is, soon := files("man.1", list), files(Now, now(1)), files(Soon, "three")
	for i, want := range []string{
		old + files("man.2", "two") + is + soon,
		old + is + soon,
		old + is,
		old + files("man.2", "") + is,
		old + unsure("man.2", other) + is,
		old + files("man.2", other) + is,
		old + files("man.2", other) + is + files(Soon, ""),
		old + files("man.2", other) + is + unsure(Soon, now(2)),
		old + files("man.2", other) + is + files(Soon, now(2)),
	} {
		what := fmt.Sprint("fuse ", i+1)
		d := holding(t, "man.1", list, "man.2", "two", Now, now(1), Soon, "three")
		m := loads(t, what, d, states[1], 1)
		d.Fuse(i + 1)
		must(t, what, m.Do(script[1]), api.ErrDown)
		if all(d) != want {
			t.Errorf("%s: %s, want %s", what, all(d), want)
		}
		d.Crash(nil)
		loads(t, what, d, states[1], 1)
	}
	d := holding(t, "man.1", list, "man.2", "two", Now, now(1), Soon, "three")
	m := loads(t, "before", d, states[1], 1)
	d.Fuse(12)
	must(t, "nine steps", m.Do(script[1]), api.OK)
	must(t, "two steps more", m.Do(script[2]), api.OK)
	must(t, "the twelfth", m.Do(Edit{}), api.ErrDown)
}

// doer is who does edits, and notes what must be there.
type doer struct {
	d    *disk.Disk
	m    *Man
	is   Version // behind the last edit that had no error
	next Version // what the one that is under way would make
	left Version // what the last crash left, up to the next edit that has no error
}

func newDoer(t *testing.T, room int) *doer {
	t.Helper()
	d := disk.New(room)
	return &doer{d: d, m: loads(t, "new", d, First(), 0), is: First(), next: First(), left: First()}
}

// do is an edit, which can be applied.
func (o *doer) do(t *testing.T, what string, x Edit) api.Errno {
	t.Helper()
	v, e := o.is.Apply(x)
	if e != api.OK {
		t.Fatalf("%s: %s of %s: %d", what, shown(x), told(o.is), e)
	}
	o.next = v
	e = o.m.Do(x)
	if e == api.OK {
		o.is, o.left = v, v
	}
	// What wasn't begun isn't under way.
	if e == api.ErrFull {
		o.next = o.is
	}
	if told(o.m.Version()) != told(o.is) {
		t.Fatalf("%s: %s, want %s", what, told(o.m.Version()), told(o.is))
	}
	return e
}

// crash lets the power go and come again; what is loaded is what was there, or what the edit under way would have made.
func (o *doer) crash(t *testing.T, what string, keep []int) {
	t.Helper()
	o.d.Crash(keep)
	m, e := Load(o.d)
	if e != api.OK {
		t.Fatalf("%s: Load: %d", what, e)
	}
	if v := told(m.Version()); v != told(o.is) && v != told(o.next) && v != told(o.left) {
		t.Fatalf("%s: %s, want %s or %s", what, v, told(o.is), told(o.next))
	}
	// Who doesn't load it again goes on without what was under way; up to then it is there.
	o.left = m.Version()
}

// again goes on with what is loaded.
func (o *doer) again(t *testing.T, what string) {
	t.Helper()
	m, e := Load(o.d)
	if e != api.OK {
		t.Fatalf("%s: Load: %d", what, e)
	}
	o.m, o.is, o.next, o.left = m, m.Version(), m.Version(), m.Version()
}

// adds is an edit that adds a file of the next number.
func (o *doer) adds() Edit {
	n := o.is.Next
	return Edit{Next: n + 1, Seq: o.is.Seq + 3, Add: []Meta{meta(n, 0, "a", "b")}}
}

// P15.6: the power goes at each step of some edits, and each number of bytes stays; then it is gone on, loaded again or not.
func TestCrashAtEachStep(t *testing.T) {
	for fuse, lasts := 1, false; !lasts; fuse++ {
		for keep := range 60 {
			for _, loaded := range []bool{true, false} {
				what := fmt.Sprint("fuse ", fuse, " keep ", keep, " loaded ", loaded)
				o := newDoer(t, 1<<16)
				o.d.Fuse(fuse)
				lasts = true
				for range 4 {
					if lasts = o.do(t, what, o.adds()) == api.OK; !lasts {
						break
					}
				}
				o.crash(t, what, []int{keep})
				if loaded {
					o.again(t, what)
				}
				for i := range 3 {
					must(t, what+": gone on", o.do(t, what, o.adds()), api.OK)
					o.crash(t, fmt.Sprint(what, " gone on ", i), nil)
					loads(t, what, o.d, o.is, o.m.Number())
				}
			}
		}
	}
}

// P15.6: an edit that a crash left whole, though it had an error, doesn't stand behind who goes on without it.
func TestGoOnWithoutIt(t *testing.T) {
	for _, keep := range []int{0, 1, 20, 1000} {
		o := newDoer(t, 1<<16)
		must(t, "Do", o.do(t, "first", o.adds()), api.OK)
		o.d.Fuse(2)
		must(t, "Do", o.do(t, "under way", o.adds()), api.ErrDown)
		o.d.Crash([]int{keep})
		number := 2
		if keep == 0 {
			number = 1
		}
		must(t, "Do", o.do(t, "other", Edit{Next: 7, Del: []int{1}}), api.OK)
		if o.m.Number() != number {
			t.Errorf("keep %d: list %d, want %d", keep, o.m.Number(), number)
		}
		loads(t, fmt.Sprint("keep ", keep), o.d, Version{Log: 1, Next: 7, Seq: 3}, number)
	}
}

// rolls is some edit of what there is: files come and go, numbers rise.
func (o *doer) rolls(r *dice) Edit {
	x := Edit{Log: o.is.Log + r.roll(2), Next: o.is.Next, Seq: o.is.Seq + uint64(r.roll(3))}
	for _, f := range o.is.Files {
		if r.roll(6) == 0 {
			x.Del = append(x.Del, f.Num)
		}
	}
	for range r.roll(4) {
		n := x.Next
		low := fmt.Sprintf("%04d", n)
		x.Add = append(x.Add, meta(n, r.roll(6), low, low+"x"))
		x.Next++
	}
	return x
}

// P15.6: many edits, on disks small and great, with crashes at any step of them; who goes on loads again, or doesn't.
func TestCrashWalk(t *testing.T) {
	count := map[api.Errno]int{}
	for seed := range 80 {
		r := dice(seed)
		o := newDoer(t, []int{100, 600, 3000, 1 << 20}[seed%4])
		for i := range 300 {
			what := fmt.Sprint("seed ", seed, " step ", i)
			switch k := r.roll(12); {
			case k == 0:
				o.d.Fuse(1 + r.roll(12))
			case k == 1 || o.d.Down():
				o.crash(t, what, []int{r.roll(90), r.roll(30)})
				if r.roll(3) > 0 {
					o.again(t, what)
				}
			case k == 2 && !o.d.Down():
				clean(o.d, o.m.Named())
			default:
				had := all(o.d)
				e := o.do(t, what, o.rolls(&r))
				count[e]++
				if e == api.ErrFull && all(o.d) != had {
					t.Fatalf("%s: a full disk was turned", what)
				}
				if e == api.OK {
					loads(t, what, o.d, o.is, o.m.Number())
				}
			}
		}
	}
	for _, e := range []api.Errno{api.OK, api.ErrDown, api.ErrFull} {
		if count[e] < 300 {
			t.Error(count)
		}
	}
}

// clean takes away what doesn't count, up to the power's end.
func clean(d *disk.Disk, named []string) {
	for _, name := range d.List() {
		if !slices.Contains(named, name) {
			d.Remove(name)
		}
	}
}
