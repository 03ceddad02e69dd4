package code

import (
	"container/heap"

	"rookery/api"
)

// noHeight: of an instruction that nothing reached.
const noHeight = -1

// waiting: instructions that have a height and were not gone through. It is a
// heap (heap.Interface) with the least number at its front.
type waiting []int

func (w waiting) Len() int           { return len(w) }
func (w waiting) Less(i, j int) bool { return w[i] < w[j] }
func (w waiting) Swap(i, j int)      { w[i], w[j] = w[j], w[i] }
func (w *waiting) Push(x any)        { *w = append(*w, x.(int)) }

func (w *waiting) Pop() any {
	last := len(*w) - 1
	x := (*w)[last]
	*w = (*w)[:last]
	return x
}

// walk: one goes through a function's instructions, each of which is right by
// itself, and finds their heights.
type walk struct {
	ins     []api.Ins
	heights []int
	left    waiting
}

func newWalk(ins []api.Ins) *walk {
	w := &walk{ins: ins, heights: make([]int, len(ins))}
	for i := range w.heights {
		w.heights[i] = noHeight
	}
	w.reach(0, 0)
	return w
}

// end: goes to the end, or up to the first instruction that can't be done with
// what is on the stack.
func (w *walk) end() (at int, ok bool) {
	for w.left.Len() > 0 {
		at := heap.Pop(&w.left).(int)
		if !w.through(at) {
			return at, false
		}
	}
	return 0, true
}

// through: a function that is still to be looked at may have an Arity far below
// 0, so that height less takes is worked out only where it is known to be small.
func (w *walk) through(at int) bool {
	in := &w.ins[at]
	r := ops[in.Op]
	height, takes := w.heights[at], taken(in)
	switch {
	case takes > height:
		return false
	case r.next == 0:
		return true
	case takes < height+r.puts-api.MaxStack:
		return false
	}
	rest := height - takes
	if r.next&behind != 0 && !w.reach(at+1, rest+r.puts) {
		return false
	}
	return r.next&atA == 0 || w.reach(in.A, rest+r.putsAtA)
}

// reach: false, if there is no such instruction, or it has another height.
func (w *walk) reach(at, height int) bool {
	if at >= len(w.ins) {
		return false
	}
	if w.heights[at] == noHeight {
		w.heights[at] = height
		heap.Push(&w.left, at)
	}
	return w.heights[at] == height
}
