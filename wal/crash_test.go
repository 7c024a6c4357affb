package wal

import (
	"fmt"
	"slices"
	"testing"

	"tailrace/api"
	"tailrace/disk"
)

// writer is who writes to a log, and notes what it may count on.
type writer struct {
	d     *disk.Disk
	l     *Log
	added []string
	sure  int // how many of these must be there behind a crash
	count int
}

func newWriter(t *testing.T, room int) *writer {
	d := disk.New(room)
	return &writer{d: d, l: reads(t, d, 1)}
}

// do is a step by its sign: it starts a part, adds a text, or syncs.
func (w *writer) do(step byte) api.Errno {
	switch step {
	case 'p':
		e := w.l.Start(w.l.Part() + 1)
		if e == api.OK {
			w.sure = len(w.added)
		}
		return e
	case 's':
		e := w.l.Sync()
		if e == api.OK {
			w.sure = len(w.added)
		}
		return e
	}
	w.count++
	s := fmt.Sprint("text ", w.count)
	e := w.l.Add(s)
	if e == api.OK {
		w.added = append(w.added, s)
	}
	return e
}

// again opens the log behind a crash: what is read must be a beginning of what was added, with all that is sure.
func (w *writer) again(t *testing.T, what string) {
	t.Helper()
	l, got, e := Open(w.d, 1)
	if e != api.OK {
		t.Fatalf("%s: Open: %d", what, e)
	}
	if len(got) < w.sure || len(got) > len(w.added) || !slices.Equal(got, w.added[:len(got)]) {
		t.Fatalf("%s: %q of %q, of which %d are sure", what, got, w.added, w.sure)
	}
	w.l, w.added = l, got
	w.sure = min(w.sure, len(got))
}

// crash lets the power go and come again.
func (w *writer) crash(t *testing.T, what string, keep []int) {
	t.Helper()
	w.d.Crash(keep)
	w.again(t, what)
	// What stays of a crash is sure.
	w.sure = len(w.added)
}

// runs does the steps of a script up to an error.
func (w *writer) runs(script string) api.Errno {
	for i := range len(script) {
		if e := w.do(script[i]); e != api.OK {
			return e
		}
	}
	return api.OK
}

// P9.5: the power goes at each step of a script on the disk, and each number of bytes stays; then it is written on, and the power goes again.
func TestCrashAtEachStep(t *testing.T) {
	for fuse, lasts := 1, false; !lasts; fuse++ {
		for keep := range 70 {
			what := fmt.Sprint("fuse ", fuse, " keep ", keep)
			w := newWriter(t, 5000)
			w.d.Fuse(fuse)
			lasts = w.runs("paasapaapspssaa") == api.OK
			w.crash(t, what, []int{keep})
			must(t, what+": written on", w.runs("paspa"), api.OK)
			w.crash(t, what+" again", []int{keep % 30})
			must(t, what+": written on again", w.runs("pa"), api.OK)
			if got := reads(t, w.d, 1, w.added...); got.Part() != w.l.Part() || got.Size() != w.l.Size() {
				t.Fatalf("%s: %s, want %s", what, asked(got), asked(w.l))
			}
		}
	}
}

// dice is numbers with no pattern to speak of, the same ones in each run.
type dice uint64

func (d *dice) roll(n int) int {
	*d = *d*6364136223846793005 + 1442695040888963407
	return int((uint64(*d) >> 33) % uint64(n))
}

// P9.5: many steps in many orders, on disks small and great, with crashes at any of them.
func TestCrashWalk(t *testing.T) {
	for seed := range 80 {
		r := dice(seed)
		w := newWriter(t, []int{0, 60, 300, 100000}[seed%4])
		for i := range 500 {
			what := fmt.Sprint("seed ", seed, " step ", i)
			switch k := r.roll(14); {
			case k == 0:
				w.d.Fuse(r.roll(9))
			case k == 1 || w.d.Down():
				w.crash(t, what, []int{r.roll(60), r.roll(60)})
			default:
				had, before := asked(w.l), told(w.d)
				step := "paaaaaasssss"[k-2]
				e := w.do(step)
				// A call that the disk refuses for want of room turns nothing, but that a Start syncs first.
				if e == api.ErrFull && (asked(w.l) != had || step == 'a' && told(w.d) != before) {
					t.Fatalf("%s: %s, was %s", what, asked(w.l), had)
				}
				if e == api.OK && !w.d.Down() {
					reads(t, w.d, 1, w.added...)
				}
			}
		}
	}
}
