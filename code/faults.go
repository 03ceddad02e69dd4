package code

import (
	"rookery/api"
	"rookery/atom"
	"rookery/match"
	"rookery/term"
)

// fault: what is wrong first with a function, and at which instruction.
func fault(l []api.Fun, fun int) (int, api.Errno) {
	if e := headFault(l, fun); e != api.OK {
		return 0, e
	}
	f := &l[fun]
	for i := range f.Ins {
		if e := insFault(l, f, &f.Ins[i]); e != api.OK {
			return i, e
		}
	}
	if at, ok := newWalk(f.Ins).end(); !ok {
		return at, api.ErrCodeStack
	}
	return 0, api.OK
}

func headFault(l []api.Fun, fun int) api.Errno {
	f := &l[fun]
	switch {
	case !atom.Right(f.Name),
		f.Arity < 0 || f.Arity > api.MaxParams,
		f.Slots < f.Arity || f.Slots > maxSlots:
		return api.ErrCodeFun
	case Find(l, f.Name, f.Arity) < fun:
		return api.ErrCodeTwice
	case len(f.Ins) == 0 || len(f.Ins) > api.MaxIns:
		return api.ErrCodeMany
	}
	return api.OK
}

// insFault: what is wrong with an instruction of f by itself.
func insFault(l []api.Fun, f *api.Fun, in *api.Ins) api.Errno {
	if in.Op < api.OPush || in.Op > api.OTake || !fieldsRight(f, in) {
		return api.ErrCodeIns
	}
	if !targetRight(l, f, in) {
		return api.ErrCodeJump
	}
	return api.OK
}

// fieldsRight: are all fields as the Op wants them, but for those that tell an
// instruction or a function?
func fieldsRight(f *api.Fun, in *api.Ins) bool {
	r := ops[in.Op]
	switch {
	case r.a == number && (in.A < r.least || in.A > r.most):
		return false
	case r.a == slot && (in.A < 0 || in.A >= f.Slots):
		return false
	case r.a != function && in.B != 0:
		return false
	}
	switch r.t {
	case rightTerm:
		return term.Check(in.T) == api.OK
	case slotPattern:
		return ofSlots(in.T, f.Slots)
	}
	return zero(&in.T)
}

func zero(t *api.Term) bool {
	return t.Kind == 0 && t.N == 0 && t.Z == 0 && t.S == "" && t.Id == api.Id{} && len(t.B) == 0 && len(t.L) == 0
}

// ofSlots: is it a pattern whose names are of a function's slots?
func ofSlots(p api.Term, slots int) bool {
	if match.Check(p) != api.OK {
		return false
	}
	for _, name := range match.Vars(p) {
		if n, _, ok := Slot(name); !ok || n >= slots {
			return false
		}
	}
	return true
}

// targetRight: is there the instruction or the function that A is to be?
func targetRight(l []api.Fun, f *api.Fun, in *api.Ins) bool {
	switch ops[in.Op].a {
	case place:
		return in.A >= 0 && in.A < len(f.Ins)
	case function:
		return in.A >= 0 && in.A < len(l) && in.B == l[in.A].Arity
	}
	return true
}
