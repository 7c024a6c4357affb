package mem

import (
	"cmp"
	"fmt"
	"math"
	"slices"
	"strings"
	"testing"
)

// dice is numbers with no pattern to speak of, the same ones in each run.
type dice uint64

func (d *dice) roll(n int) int {
	*d = *d*6364136223846793005 + 1442695040888963407
	return int((uint64(*d) >> 33) % uint64(n))
}

// listed is all things of a Sorted, by At.
func listed[T any](t *testing.T, s *Sorted[T]) []T {
	t.Helper()
	var list []T
	for i := range s.Len() {
		x, ok := s.At(i)
		if !ok {
			t.Errorf("At(%d) of %d: none", i, s.Len())
		}
		list = append(list, x)
	}
	return list
}

// beyond is places at which a list of so many things has none.
func beyond(size int) []int {
	return []int{-1, -2, -size, -size - 1, size, size + 1, math.MinInt, math.MaxInt}
}

// has tells whether a Sorted has just these things, in this order.
func has[T comparable](t *testing.T, what string, s *Sorted[T], want ...T) {
	t.Helper()
	if got := listed(t, s); !slices.Equal(got, want) || s.Len() != len(want) {
		t.Errorf("%s: %v, %d, want %v", what, got, s.Len(), want)
	}
	for _, i := range beyond(len(want)) {
		var none T
		if x, ok := s.At(i); ok || x != none {
			t.Errorf("%s: At(%d): %v %v", what, i, x, ok)
		}
	}
}

// tens is an order in which several numbers have one place.
func tens(a, b int) int {
	return a/10 - b/10
}

// P10.1: a new one is empty; one without an order is nil.
func TestNewSorted(t *testing.T) {
	has(t, "new", NewSorted(tens))
	if s := NewSorted(tens); s == nil || s.Seek(5) != 0 || s.Drop(0) {
		t.Error("a new one")
	}
	if s := NewSorted[int](nil); s != nil {
		t.Error("one without an order")
	}
	if s := NewSorted[string](nil); s != nil {
		t.Error("one of texts without an order")
	}
	if NewSorted(tens) == NewSorted(tens) {
		t.Error("two that are one")
	}
}

// P10.1: each thing in its place, the later one in the place of the earlier one.
func TestPut(t *testing.T) {
	s := NewSorted(tens)
	for _, c := range []struct {
		x    int
		had  bool
		want []int
	}{
		{51, false, []int{51}},
		{20, false, []int{20, 51}},
		{33, false, []int{20, 33, 51}},
		{99, false, []int{20, 33, 51, 99}},
		{35, true, []int{20, 35, 51, 99}},
		{35, true, []int{20, 35, 51, 99}},
		{29, true, []int{29, 35, 51, 99}},
		{90, true, []int{29, 35, 51, 90}},
		{12, false, []int{12, 29, 35, 51, 90}},
		{40, false, []int{12, 29, 35, 40, 51, 90}},
	} {
		if had := s.Put(c.x); had != c.had {
			t.Errorf("Put(%d): %v", c.x, had)
		}
		has(t, fmt.Sprint("Put ", c.x), s, c.want...)
	}
}

// P10.1: how many are ahead.
func TestSeek(t *testing.T) {
	s := NewSorted(tens)
	for _, x := range []int{55, 11, 77, 33} {
		s.Put(x)
	}
	for x, want := range map[int]int{0: 0, 10: 0, 11: 0, 19: 0, 20: 1, 30: 1, 33: 1, 39: 1, 45: 2, 51: 2, 60: 3, 70: 3, 79: 3, 80: 4, 1000: 4} {
		if got := s.Seek(x); got != want {
			t.Errorf("Seek(%d): %d, want %d", x, got, want)
		}
	}
	has(t, "Seek", s, 11, 33, 55, 77)
}

// P10.1: each place's thing goes alone; where there is none nothing goes.
func TestDrop(t *testing.T) {
	all := []int{10, 20, 30, 40}
	for i := range all {
		s := NewSorted(tens)
		for _, x := range all {
			s.Put(x)
		}
		if !s.Drop(i) {
			t.Errorf("Drop(%d): none", i)
		}
		left := slices.Delete(slices.Clone(all), i, i+1)
		has(t, fmt.Sprint("Drop ", i), s, left...)
		for _, j := range beyond(len(left)) {
			if s.Drop(j) {
				t.Errorf("Drop(%d) of %d", j, len(left))
			}
		}
		has(t, fmt.Sprint("Drop beyond ", i), s, left...)
		if s.Put(all[i] + 1) {
			t.Errorf("Put behind Drop(%d): something stood there", i)
		}
		for s.Len() > 0 {
			s.Drop(0)
		}
		has(t, "all dropped", s)
		if s.Drop(0) || s.Put(5) {
			t.Error("an empty one")
		}
		has(t, "behind all", s, 5)
	}
}

// P10.1: a nil one has nothing, and takes nothing; nor does one that NewSorted didn't make.
func TestNilSorted(t *testing.T) {
	for what, s := range map[string]*Sorted[int]{"nil": nil, "empty": {}} {
		if s.Put(1) || s.Seek(1) != 0 || s.Drop(0) || s.Drop(-1) || s.Put(1) {
			t.Error(what)
		}
		has(t, what, s)
	}
}

// P10.1: things of any type, in any order: texts from the last to the first, lists by their length.
func TestSortedOfOthers(t *testing.T) {
	s := NewSorted(func(a, b string) int { return 7 * strings.Compare(b, a) })
	for _, x := range []string{"b", "", "a", "c", "aa", "b"} {
		s.Put(x)
	}
	has(t, "texts", s, "c", "b", "aa", "a", "")
	lists := NewSorted(func(a, b []int) int { return cmp.Compare(len(a), len(b)) })
	if lists.Put([]int{1, 2}) || lists.Put(nil) || lists.Put([]int{3}) || !lists.Put([]int{4, 5}) || lists.Len() != 3 {
		t.Error("lists")
	}
	if x, ok := lists.At(2); !ok || !slices.Equal(x, []int{4, 5}) {
		t.Error("lists", x, ok)
	}
	if x, ok := lists.At(3); ok || x != nil {
		t.Error("no list", x, ok)
	}
	ends := NewSorted(func(a, b int) int {
		switch {
		case a < b:
			return math.MinInt
		case a > b:
			return math.MaxInt
		}
		return 0
	})
	for _, x := range []int{3, 1, 2, 1} {
		ends.Put(x)
	}
	has(t, "an order of the greatest answers", ends, 1, 2, 3)
}

// plainPut is what Put does, as the document tells it: all are gone through.
func plainPut(list []int, x int) ([]int, bool) {
	for i, y := range list {
		if tens(x, y) == 0 {
			list[i] = x
			return list, true
		}
	}
	list = append(list, x)
	slices.SortFunc(list, tens)
	return list, false
}

// ahead is how many are ahead of x.
func ahead(list []int, x int) int {
	n := 0
	for _, y := range list {
		if tens(y, x) < 0 {
			n++
		}
	}
	return n
}

// P10.1: many calls in many orders answer as a plain list does.
func TestSortedWalk(t *testing.T) {
	for seed := range 40 {
		r := dice(seed)
		s := NewSorted(tens)
		var list []int
		for i := range 300 {
			x := r.roll(600)
			switch r.roll(4) {
			case 0:
				at := r.roll(len(list)+3) - 1
				want := at >= 0 && at < len(list)
				if want {
					list = slices.Delete(list, at, at+1)
				}
				if got := s.Drop(at); got != want {
					t.Fatalf("seed %d step %d: Drop(%d): %v", seed, i, at, got)
				}
			default:
				var want bool
				list, want = plainPut(list, x)
				if got := s.Put(x); got != want {
					t.Fatalf("seed %d step %d: Put(%d): %v", seed, i, x, got)
				}
			}
			if got := listed(t, s); !slices.Equal(got, list) {
				t.Fatalf("seed %d step %d: %v, want %v", seed, i, got, list)
			}
			if y := r.roll(620) - 10; s.Seek(y) != ahead(list, y) {
				t.Fatalf("seed %d step %d: Seek(%d): %d, want %d", seed, i, y, s.Seek(y), ahead(list, y))
			}
		}
	}
}
