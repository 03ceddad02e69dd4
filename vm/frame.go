package vm

import (
	"slices"

	"rookery/api"
)

// function is what is kept of one: its name is nothing to those that run.
type function struct {
	slots int
	ins   []api.Ins
}

// functions: in memory of their own.
func functions(l []api.Fun) []function {
	out := make([]function, len(l))
	for i := range l {
		out[i] = function{slots: l[i].Slots, ins: slices.Clone(l[i].Ins)}
		for j := range out[i].ins {
			in := &out[i].ins[j]
			in.T = fresh(in.T)
		}
	}
	return out
}

// frame: a function that runs, with the instruction that is next, its slots and
// its stack.
type frame struct {
	*function
	next  int
	slots []api.Term
	stack []api.Term
}

// newFrame: its first slots are the arguments, which stay as they are.
func newFrame(f *function, args []api.Term) frame {
	slots := make([]api.Term, f.slots)
	for i := copy(slots, args); i < len(slots); i++ {
		slots[i] = atom("undefined")
	}
	return frame{function: f, slots: slots}
}

// done: the instruction that was done last.
func (f *frame) done() *api.Ins { return &f.ins[f.next-1] }

func (p *Proc) enter(fun int, args []api.Term) {
	p.frames = append(p.frames, newFrame(&p.funs[fun], args))
}

func (p *Proc) leaveFrame() {
	last := len(p.frames) - 1
	p.frames[last] = frame{}
	p.frames = p.frames[:last]
}

// last: the frame that runs.
func (p *Proc) last() *frame { return &p.frames[len(p.frames)-1] }

func (p *Proc) put(t api.Term) {
	f := p.last()
	f.stack = append(f.stack, t)
}

// take: the values at the stack's top, the first one that was put first, in a
// list of their own. The stack forgets them, so that they are not kept.
func (p *Proc) take(n int) []api.Term {
	f := p.last()
	rest := len(f.stack) - n
	out := slices.Clone(f.stack[rest:])
	clear(f.stack[rest:])
	f.stack = f.stack[:rest]
	return out
}

func (p *Proc) takeOne() api.Term { return p.take(1)[0] }
