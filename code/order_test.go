package code_test

import (
	"slices"
	"testing"

	"rookery/api"
	"rookery/term"
)

// spoiler: makes one thing wrong with a function; the first ones are told ahead
// of those behind them. (The function before is a right one of that name.)
type spoiler struct {
	what  string
	e     api.Errno
	ins   int
	spoil func(f *api.Fun)
}

// base: a right function of ten instructions.
func base() api.Fun {
	return api.Fun{Name: "f", Arity: 1, Slots: 3, Ins: row(one(), op(api.OLoad, 2), op(api.OSend), fit(variable("V1"), 5), op(api.OJump, 6), op(api.OFail, 1), op(api.OCall, 0, 1), op(api.ONeg), op(api.ONeg), ret())}
}

// headSpoilers: step 1, in its order.
func headSpoilers() []spoiler {
	return []spoiler{
		{"Name", api.ErrCodeFun, 0, func(f *api.Fun) { f.Name = "F" }},
		{"Arity", api.ErrCodeFun, 0, func(f *api.Fun) { f.Arity = -1 }},
		{"Slots", api.ErrCodeFun, 0, func(f *api.Fun) { f.Slots = 73 }},
		{"twice", api.ErrCodeTwice, 0, func(f *api.Fun) { f.Name = "g" }},
		{"no instruction", api.ErrCodeMany, 0, func(f *api.Fun) { f.Ins = nil }},
		{"too many instructions", api.ErrCodeMany, 0, func(f *api.Fun) {
			if len(f.Ins) > 0 {
				f.Ins = slices.Concat(f.Ins, ones(3991))
			}
		}},
	}
}

// insSpoilers: step 2, each at an instruction of its own, in their order.
func insSpoilers() []spoiler {
	at := func(i int, e api.Errno, what string, spoil func(in *api.Ins)) spoiler {
		return spoiler{what, e, i, func(f *api.Fun) {
			if len(f.Ins) > 0 {
				spoil(&f.Ins[i])
			}
		}}
	}
	return []spoiler{
		at(0, api.ErrCodeIns, "a term", func(in *api.Ins) { in.T = api.Term{} }),
		at(1, api.ErrCodeIns, "a slot", func(in *api.Ins) { in.A = 3 }),
		at(2, api.ErrCodeIns, "an Op", func(in *api.Ins) { in.Op = 20 }),
		at(3, api.ErrCodeIns, "a pattern", func(in *api.Ins) { in.T = variable("V3") }),
		at(4, api.ErrCodeJump, "an instruction", func(in *api.Ins) { in.A = 8000 }),
		at(5, api.ErrCodeIns, "a number", func(in *api.Ins) { in.A = 4 }),
		at(6, api.ErrCodeJump, "a function", func(in *api.Ins) { in.A = -1 }),
		at(7, api.ErrCodeIns, "a field", func(in *api.Ins) { in.B = 1 }),
	}
}

// stackSpoilers: step 3, each at an instruction that step 2 leaves alone.
func stackSpoilers() []spoiler {
	at := func(i int, what string, in api.Ins) spoiler {
		return spoiler{what, api.ErrCodeStack, i, func(f *api.Fun) {
			if len(f.Ins) > 0 {
				f.Ins[i] = in
			}
		}}
	}
	return []spoiler{
		at(8, "too few values", op(api.OSend)),
		at(9, "no next one", op(api.ONeg)),
	}
}

// before: a function g with one parameter, which the base calls.
func before() api.Fun { return named("g", 1) }

// Of one function the first of all that is wrong is told, whichever two are.
func TestP18_1OrderInAFunction(t *testing.T) {
	wantRight(t, "nothing is wrong", before(), base())
	all := append(append(headSpoilers(), insSpoilers()...), stackSpoilers()...)
	for i, x := range all {
		f := base()
		x.spoil(&f)
		wantCheck(t, x.what, funs(before(), f), 1, x.ins, x.e)
		for _, y := range all[i+1:] {
			// The second of these takes back what the first one did.
			if x.what == "Name" && y.what == "twice" || x.what == "no instruction" && y.what == "too many instructions" {
				continue
			}
			f := base()
			x.spoil(&f)
			y.spoil(&f)
			wantCheck(t, x.what+" and "+y.what, funs(before(), f), 1, x.ins, x.e)
			f = base()
			y.spoil(&f)
			x.spoil(&f)
			wantCheck(t, y.what+" and "+x.what, funs(before(), f), 1, x.ins, x.e)
		}
	}
}

// What is wrong with an earlier function comes first, whatever it is; where a
// later one has something that is told ahead of it in one function, too.
func TestP18_1FunctionByFunction(t *testing.T) {
	all := append(append(headSpoilers(), insSpoilers()...), stackSpoilers()...)
	for _, x := range all {
		for _, y := range all {
			f, g := base(), base()
			f.Name, g.Name = "f", "h"
			x.spoil(&f)
			y.spoil(&g)
			wantCheck(t, x.what+", then "+y.what, funs(before(), f, g), 1, x.ins, x.e)
			wantCheck(t, x.what+", then something, then "+y.what, funs(before(), f, named("k", 2), g), 1, x.ins, x.e)
			wantCheck(t, y.what+", then "+x.what, funs(before(), g, f), 1, y.ins, y.e)
		}
	}
}

// Two names that are no atoms, and two functions that are wrong in one way: not
// ErrCodeTwice, for which the first one would have had to be gone by.
func TestP18_1TwiceAndFun(t *testing.T) {
	wantCheck(t, "two of one wrong name", funs(named("F", 0), named("F", 0)), 0, 0, api.ErrCodeFun)
	wantCheck(t, "two of one wrong Arity", funs(named("f", 9), named("f", 9)), 0, 0, api.ErrCodeFun)
	wantCheck(t, "the first has no instruction", funs(api.Fun{Name: "f"}, named("f", 0)), 0, 0, api.ErrCodeMany)
	wantCheck(t, "the second has no instruction", funs(named("f", 0), api.Fun{Name: "f"}), 1, 0, api.ErrCodeTwice)
	wantCheck(t, "the second has no Slots", funs(named("f", 2), api.Fun{Name: "f", Arity: 2}), 1, 0, api.ErrCodeFun)
	wantCheck(t, "the second has an instruction that may not be", funs(named("f", 0), api.Fun{Name: "f", Ins: row(op(0))}), 1, 0, api.ErrCodeTwice)
	wantCheck(t, "the first has an instruction that may not be", funs(fun(one(), op(0)), fun(one(), ret())), 0, 1, api.ErrCodeIns)
	wantCheck(t, "the first has a stack that may not be", funs(fun(one(), op(api.OPop)), fun(one(), ret())), 0, 1, api.ErrCodeStack)
}

// Of one instruction ErrCodeIns comes ahead of ErrCodeJump; of two the first.
func TestP18_1InsAheadOfJump(t *testing.T) {
	for _, in := range row(op(api.OJump), op(api.OPeek), fit(anything(), 0)) {
		for _, a := range append([]int{-1, 6, 7}, far...) {
			in.A = a
			wantIns(t, "a jump", in, api.ErrCodeJump)
			both := in
			both.B = 1
			wantIns(t, "a jump, and B", both, api.ErrCodeIns)
			both = in
			both.T = api.Term{Kind: api.KVar, S: "X"}
			wantIns(t, "a jump, and T", both, api.ErrCodeIns)
			both.T = term.Atom("A")
			wantIns(t, "a jump, and T", both, api.ErrCodeIns)
		}
	}
	for _, kind := range []int{api.OCall, api.OTail} {
		for _, in := range row(op(kind, -1), op(kind, 3), op(kind, 0, 2), op(kind, 1, 1), op(kind, 0, -1)) {
			wantIns(t, "a function", in, api.ErrCodeJump)
			in.T = term.Int(1)
			wantIns(t, "a function, and T", in, api.ErrCodeIns)
		}
	}
	jump, wrong := op(api.OJump, 9), op(api.OPop, 1)
	wantOne(t, "a jump, then a field", fun(one(), jump, wrong, ret()), 1, api.ErrCodeJump)
	wantOne(t, "a field, then a jump", fun(one(), wrong, jump, ret()), 1, api.ErrCodeIns)
	wantOne(t, "too few values ahead of a field", fun(ret(), wrong, ret()), 1, api.ErrCodeIns)
	wantOne(t, "too few values ahead of a jump", fun(ret(), jump, ret()), 1, api.ErrCodeJump)
}
