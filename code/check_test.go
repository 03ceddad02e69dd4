package code_test

import (
	"testing"

	"rookery/api"
	"rookery/code"
	"rookery/term"
)

func TestP18_1Examples(t *testing.T) {
	wantHeights(t, "OPush 1, ORet", fun(one(), ret()), 0, 1)
	wantOne(t, "ORet", fun(ret()), 0, api.ErrCodeStack)
	wantHeights(t, "OJump 0", fun(op(api.OJump)), 0)
	wantOne(t, "OPush, OJump 0", fun(one(), op(api.OJump)), 1, api.ErrCodeStack)
}

// ordinary: right functions, as layer 19's chapter says the code of trees.
func ordinary() []api.Fun {
	x := fun(one(), fit(variable("V0"), 3), op(api.OJump, 4), op(api.OFail, 1), op(api.OPop), op(api.OLoad, 0), push(term.Int(2)), op(api.OBin, 1), ret())
	x.Name = "sum"
	loop := fun(op(api.OTail, 1))
	loop.Name = "loop"
	choice := api.Fun{Name: "choice", Arity: 1, Slots: 3, Ins: row(
		op(api.OLoad, 0),
		fit(term.Tuple(term.Atom("a"), variable("V1"), variable("B0")), 5), op(api.OPop), op(api.OLoad, 1), ret(),
		fit(anything(), 9), op(api.OPop), op(api.OLoad, 0), op(api.OTail, 2, 1),
		op(api.OFail, 2),
	)}
	wait := api.Fun{Name: "wait", Arity: 2, Slots: 4, Ins: row(
		op(api.OLoad, 1), op(api.OTimer),
		op(api.OPeek, 9), fit(variable("V2"), 7), op(api.OTake), op(api.OLoad, 2), ret(),
		op(api.ONext), op(api.OJump, 2),
		push(term.Atom("timeout")), op(api.OFail, 3),
	)}
	all := api.Fun{Name: "all", Arity: 0, Slots: 0, Ins: row(
		op(api.OBif, 1), ones(2), op(api.OCall, 3, 2), op(api.OSend), op(api.ONeg),
		op(api.OTuple, 1), ones(1), op(api.OList, 2), op(api.OBif, 18), ret(),
	)}
	return funs(x, loop, choice, wait, all)
}

func TestP18_1Ordinary(t *testing.T) {
	wantRight(t, "ordinary functions", ordinary()...)
	want := [][]int{
		{0, 1, 1, 1, 1, 0, 1, 2, 1},
		{0},
		{0, 1, 1, 0, 1, 1, 1, 0, 1, 1},
		{0, 1, 0, 1, 1, 0, 1, 1, 0, 0, 1},
		{0, 1, 2, 3, 2, 1, 1, 1, 2, 1, 1},
	}
	for i, l := range want {
		wantList(t, "ordinary functions", code.Heights(ordinary(), i), l)
	}
}

// alone: each error by itself, where it stands, and nothing else is wrong.
type alone struct {
	what string
	f    api.Fun
	ins  int
	e    api.Errno
}

func eachAlone() []alone {
	return []alone{
		{"a name", api.Fun{Name: "F", Ins: row(one(), ret())}, 0, api.ErrCodeFun},
		{"Arity", api.Fun{Name: "f", Arity: 9, Slots: 9, Ins: row(one(), ret())}, 0, api.ErrCodeFun},
		{"Slots", api.Fun{Name: "f", Arity: 1, Ins: row(one(), ret())}, 0, api.ErrCodeFun},
		{"no instruction", fun(), 0, api.ErrCodeMany},
		{"too many instructions", fun(ones(1), ret(), ones(3999)), 0, api.ErrCodeMany},
		{"no Op", fun(one(), ret(), op(0)), 2, api.ErrCodeIns},
		{"a field", fun(one(), op(api.ONeg, 1), ret()), 1, api.ErrCodeIns},
		{"a term", fun(one(), push(term.Atom("A")), op(api.OSend), ret()), 1, api.ErrCodeIns},
		{"a pattern", fun(one(), fit(variable("X"), 2), ret()), 1, api.ErrCodeIns},
		{"an instruction", fun(one(), op(api.OJump, 4), op(api.OPop), ret()), 1, api.ErrCodeJump},
		{"a function", fun(one(), op(api.OPop), op(api.OTail, 3)), 2, api.ErrCodeJump},
		{"its Arity", fun(one(), op(api.OTail, 0, 1)), 1, api.ErrCodeJump},
		{"too few values", fun(one(), op(api.OSend), ret()), 1, api.ErrCodeStack},
		{"too many values", fun(ones(301), ret()), 300, api.ErrCodeStack},
		{"no next one", fun(one(), op(api.ONeg)), 1, api.ErrCodeStack},
		{"two heights", fun(op(api.OPeek, 1), op(api.OJump, 1)), 0, api.ErrCodeStack},
	}
}

func TestP18_1EachErrorAlone(t *testing.T) {
	for _, c := range eachAlone() {
		wantOne(t, c.what, c.f, c.ins, c.e)
	}
	wantCheck(t, "twice", funs(named("g", 0), named("f", 1), named("f", 1)), 2, 0, api.ErrCodeTwice)
}

// Beside OK, and where no instruction is named, the numbers are 0.
func TestP18_1HowManyFunctions(t *testing.T) {
	wantCheck(t, "no function", nil, 0, 0, api.ErrCodeMany)
	wantCheck(t, "no function", []api.Fun{}, 0, 0, api.ErrCodeMany)
	for n := 1; n <= 64; n++ {
		wantRight(t, "1 to 64 functions", numbered(n)...)
	}
	for _, n := range []int{65, 66, 128, 1000} {
		wantCheck(t, "more than 64 functions", numbered(n), 0, 0, api.ErrCodeMany)
	}
	bad := numbered(65)
	for i := range bad {
		bad[i].Name = "F"
	}
	wantCheck(t, "65 functions, none of them right", bad, 0, 0, api.ErrCodeMany)
	wantCheck(t, "64 functions, none of them right", bad[:64], 0, 0, api.ErrCodeFun)
	wantCheck(t, "65 functions of one name", make([]api.Fun, 65), 0, 0, api.ErrCodeMany)
	last := append(numbered(63), fun(ret()))
	wantCheck(t, "the 64th is wrong", last, 63, 0, api.ErrCodeStack)
}

func wantList(t testing.TB, what string, got, want []int) {
	t.Helper()
	if len(got) != len(want) {
		t.Errorf("P18.2: %s: %d; want %d", what, got, want)
		return
	}
	for i := range got {
		if got[i] != want[i] {
			t.Errorf("P18.2: %s: %d; want %d", what, got, want)
			return
		}
	}
}
