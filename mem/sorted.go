package mem

import "slices"

// Sorted is things in an order, each place once.
type Sorted[T any] struct {
	order func(a, b T) int
	list  []T
}

// NewSorted is an empty one.
func NewSorted[T any](cmp func(a, b T) int) *Sorted[T] {
	if cmp == nil {
		return nil
	}
	return &Sorted[T]{order: cmp}
}

// Put lets a thing stand in its place, in the place of what stands there; whether something did.
func (s *Sorted[T]) Put(x T) bool {
	if !s.ordered() {
		return false
	}
	i, there := s.find(x)
	if there {
		s.list[i] = x
	} else {
		s.list = slices.Insert(s.list, i, x)
	}
	return there
}

// Seek is the place of the first thing that isn't ahead of one.
func (s *Sorted[T]) Seek(x T) int {
	i, _ := s.find(x)
	return i
}

// At is the thing at a place.
func (s *Sorted[T]) At(i int) (T, bool) {
	if i < 0 || i >= s.Len() {
		var none T
		return none, false
	}
	return s.list[i], true
}

// Drop takes the thing at a place away.
func (s *Sorted[T]) Drop(i int) bool {
	if i < 0 || i >= s.Len() {
		return false
	}
	s.list = slices.Delete(s.list, i, i+1)
	return true
}

// Len is how many things there are.
func (s *Sorted[T]) Len() int {
	if s == nil {
		return 0
	}
	return len(s.list)
}

// ordered tells whether things can be taken: a Sorted that NewSorted didn't make has no order to put them in.
func (s *Sorted[T]) ordered() bool {
	return s != nil && s.order != nil
}

// find is the place of a thing, and whether something stands there.
func (s *Sorted[T]) find(x T) (int, bool) {
	if !s.ordered() {
		return 0, false
	}
	return slices.BinarySearchFunc(s.list, x, s.order)
}
