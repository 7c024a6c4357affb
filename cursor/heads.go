package cursor

import (
	"cmp"
	"container/heap"

	"tailrace/api"
	"tailrace/key"
)

// head is one of several cursors, and what comes next of it.
type head struct {
	next key.Entry
	of   *Cursor
	rank int // where it stands among the several: of alike changes those of the lesser come first
}

// heads is a heap: the first one has what comes next of all.
type heads []*head

func (h heads) Len() int {
	return len(h)
}

func (h heads) Less(i, j int) bool {
	return cmp.Or(h[i].next.Cmp(h[j].next), cmp.Compare(h[i].rank, h[j].rank)) < 0
}

func (h heads) Swap(i, j int) {
	h[i], h[j] = h[j], h[i]
}

func (h *heads) Push(x any) {
	*h = append(*h, x.(*head))
}

func (h *heads) Pop() any {
	end := len(*h) - 1
	x := (*h)[end]
	*h = (*h)[:end]
	return x
}

// ask asks the cursors of which it isn't known what comes next: those that are through are left out.
func (c *Cursor) ask() api.Errno {
	for _, h := range c.unknown {
		x, ok, e := h.of.Peek()
		if e != api.OK {
			return e
		}
		if ok {
			h.next = x
			heap.Push(&c.known, h)
		}
	}
	c.unknown = c.unknown[:0]
	return api.OK
}

// goOnFirst lets the first cursor go on.
func (c *Cursor) goOnFirst() {
	h := heap.Pop(&c.known).(*head)
	h.of.Next()
	c.unknown = append(c.unknown, h)
}

// leaveOutAll lets each cursor leave out what is ahead of a change.
func (c *Cursor) leaveOutAll(x key.Entry) api.Errno {
	c.unknown = append(c.unknown, c.known...)
	c.known = nil
	for _, h := range c.unknown {
		if e := h.of.Seek(x); e != api.OK {
			return e
		}
	}
	return api.OK
}
