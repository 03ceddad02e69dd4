package comp_test

import (
	"fmt"
	"slices"
	"strings"
	"testing"

	"rookery/api"
	"rookery/check"
	"rookery/code"
	"rookery/comp"
)

// exactly: a body whose last code has so many instructions.
func exactly(n int) []api.Tree {
	one := integer(1)
	l := repeated(one, n/2)
	if n%2 == 1 {
		l[0] = neg(one)
	}
	return l
}

// high: an expression for which so many values stand on the stack at once.
func high(n int) api.Tree {
	one := integer(1)
	return tuple(append(repeated(one, api.MaxWide-2), tuple(repeated(one, n-api.MaxWide+2)...))...)
}

// deepTuple: a pattern of that depth.
func deepTuple(n int) api.Tree {
	x := variable("X")
	for range n - 1 {
		x = tuple(x)
	}
	return x
}

// checkFaults: by each of check's errors programs that have it alone.
func checkFaults() map[api.Errno][]api.Tree {
	one := integer(1)
	main := function("main", one)
	names := tuple()
	for _, s := range numbered("N", api.MaxSlots+1) {
		names.L = append(names.L, variable(s))
	}
	funs := []api.Tree{main}
	for _, s := range numbered("f", api.MaxFuns) {
		funs = append(funs, function(s, one))
	}
	return map[api.Errno][]api.Tree{
		api.ErrCheckMany: {
			inMain(repeated(one, api.MaxTokens-2)...), program(funs...), inMain(tuple(repeated(one, api.MaxWide+1)...)), inMain(list(repeated(one, api.MaxWide+1)...)),
			inMain(equal(names, one)), program(main, function("f", one, numbered("P", api.MaxParams+1)...)), inMain(call("main", repeated(one, api.MaxParams+1)...)),
		},
		api.ErrCheckTree: {
			{}, one, main, body(one), {Kind: api.TProg + 1}, {Kind: -1}, tree(api.TProg, "p", main), {Kind: api.TProg, N: 1, L: []api.Tree{main}}, {Kind: api.TProg, B: []byte{0}, L: []api.Tree{main}}, program(one), program(program(main)),
			inMain(), inMain(api.Tree{}), inMain(integer(-1)), inMain(integer(api.MaxInt + 1)), inMain(atomic("A")), inMain(atomic("end")), inMain(variable("x")), inMain(raw(api.MaxSize + 1)), inMain(tree(api.TNeg, "")), inMain(neg(integer(-1))),
			inMain(tree(api.TBin, "!", one, one)), inMain(tree(api.TBin, "", one, one)), inMain(tree(api.TBin, "+", one)), inMain(tree(api.TSend, "", one)), inMain(tree(api.TEqual, "", one)), inMain(choice(one)), inMain(receive()),
			inMain(clause(one, one)), inMain(body(one)), inMain(receive(after(one, one), clause(one, one))), inMain(receive(after(one, one), after(one, one))), inMain(choice(one, after(one, one))), inMain(choice(one, clause(one))), inMain(receive(after(one))),
			inMain(choice(one, tree(api.TClause, "", one, one))), program(tree(api.TFun, "main")), program(tree(api.TFun, "main", one, body(one))), program(tree(api.TFun, "Main", body(one))),
		},
		api.ErrCheckTwice:   {program(main, main), program(main, function("f", one, "A"), function("f", one, "B")), program(main, function("f", one, "A", "A"))},
		api.ErrCheckName:    {program(main, function("self", one)), program(main, function("hd", one, "A"))},
		api.ErrCheckPattern: {inMain(equal(plus(one, one), one)), inMain(choice(one, clause(call("main"), one))), inMain(receive(clause(neg(neg(one)), one))), inMain(equal(tuple(neg(atomic("a"))), one))},
		api.ErrCheckVar:     {inMain(variable("X")), inMain(variable("_")), inMain(equal(variable("X"), variable("X"))), inMain(choice(one, clause(variable("X"), one)), variable("X")), inMain(receive(after(one, equal(variable("X"), one))), variable("X"))},
		api.ErrCheckCall:    {inMain(call("f")), inMain(call("main", one)), inMain(call("self", one))},
		api.ErrCheckMain:    {program(), program(function("f", one)), program(function("main", one, "A"))},
	}
}

func TestP19_1ChecksErrors(t *testing.T) {
	faults := checkFaults()
	if len(faults) != 8 {
		t.Errorf("there are only %d errors of check", len(faults))
	}
	for e, l := range faults {
		for _, x := range l {
			if got := check.Check(x); got != e {
				t.Errorf("P17.1: Check of %s: %d; want %d", show(x), got, e)
			}
			wantTree(t, "check's error", x, e)
		}
	}
}

func TestP19_1CodeMany(t *testing.T) {
	for _, n := range []int{2, 3, 3998, 3999, 4000} {
		x := inMain(exactly(n)...)
		wantTree(t, "as many instructions as may be", x, api.OK)
		if l, _ := comp.Compile(x); len(l) != 1 || len(l[0].Ins) != n {
			t.Errorf("P19.1: not %d instructions", n)
		}
	}
	for _, n := range []int{4001, 4002, 6000, 7994} {
		wantTree(t, "too many instructions", inMain(exactly(n)...), api.ErrCodeMany)
	}
	small := function("f", integer(1))
	for n, e := range map[int]api.Errno{4000: api.OK, 4001: api.ErrCodeMany} {
		great := inMain(exactly(n)...).L[0]
		wantTree(t, "in the first function", program(great, small), e)
		wantTree(t, "in the second function", program(small, great), e)
	}
	other := inMain(exactly(4000)...).L[0]
	other.S = "other"
	wantTree(t, "two functions have more together", program(other, inMain(exactly(3900)...).L[0]), api.OK)
	// ends that are left out, and OTail, make it less.
	last := exactly(3998)
	wantTree(t, "OTail", inMain(append(last, call("main"))...), api.OK)
	wantTree(t, "OTail and one more", inMain(append(exactly(3999), call("main"))...), api.OK)
	wantTree(t, "OTail and two more", inMain(append(exactly(4000), call("main"))...), api.ErrCodeMany)
	one := integer(1)
	wantTree(t, "a case that is last", inMain(append(exactly(3994), choice(one, clause(one, one)))...), api.OK)
	wantTree(t, "a case that is last and one more", inMain(append(exactly(3995), choice(one, clause(one, one)))...), api.ErrCodeMany)
}

// The lengths at which a case and a receive, as the last one of 4000, pass.
func TestP19_1CodeManyEdges(t *testing.T) {
	one := integer(1)
	for _, last := range []api.Tree{
		one, neg(one), call("main"), call("hd", one), equal(one, one), choice(one, clause(one, one)), choice(one, clause(one, call("main")), clause(one, one)),
		receive(clause(one, one)), receive(after(one, one)), receive(clause(one, call("main")), after(one, call("main"))), tuple(choice(one, clause(one, one))), plus(receive(clause(one, one)), one),
	} {
		own := len(asked(inMain(last))[0].Ins)
		for n := 3998; n <= 4003; n++ {
			e := api.OK
			if n > 4000 {
				e = api.ErrCodeMany
			}
			x := inMain(append(exactly(n-own), last)...)
			if got := len(asked(x)[0].Ins); got != n {
				t.Fatalf("%d instructions; want %d", got, n)
			}
			wantTree(t, "near to 4000", x, e)
		}
	}
}

func TestP19_1CodeStack(t *testing.T) {
	one := integer(1)
	for _, n := range []int{256, 299, 300} {
		x := inMain(high(n))
		wantTree(t, "as many values as may be", x, api.OK)
		if l, _ := comp.Compile(x); slices.Max(code.Heights(l, 0)) != n {
			t.Errorf("P19.1: %d values are on the stack; want %d", slices.Max(code.Heights(l, 0)), n)
		}
	}
	for _, n := range []int{301, 302, 400, 510} {
		wantTree(t, "too many values", inMain(high(n)), api.ErrCodeStack)
	}
	for _, around := range []func(x api.Tree) api.Tree{
		func(x api.Tree) api.Tree { return neg(x) },
		func(x api.Tree) api.Tree { return equal(variable("X"), x) },
		func(x api.Tree) api.Tree { return choice(x, clause(one, one)) },
		func(x api.Tree) api.Tree { return choice(one, clause(one, x)) },
		func(x api.Tree) api.Tree { return choice(one, clause(one, one, x)) },
		func(x api.Tree) api.Tree { return receive(clause(one, x, one)) },
		func(x api.Tree) api.Tree { return receive(after(x, one)) },
		func(x api.Tree) api.Tree { return receive(after(one, one, x)) },
		func(x api.Tree) api.Tree { return call("f", x) },
	} {
		f := function("f", one, "_")
		for n, e := range map[int]api.Errno{300: api.OK, 301: api.ErrCodeStack} {
			wantTree(t, "high", program(inMain(around(high(n))).L[0], f), e)
			wantTree(t, "high, in the second function", program(f, inMain(one, around(high(n)), one).L[0]), e)
			wantTree(t, "high, behind a value", program(inMain(tuple(one, around(high(n-1)))).L[0], f), e)
			wantTree(t, "high, behind a value, by one more", program(inMain(tuple(one, around(high(n)))).L[0], f), api.ErrCodeStack)
		}
	}
	right := one
	for n := 2; n <= 310; n++ {
		right = plus(one, right)
		e := api.OK
		if n > api.MaxStack {
			e = api.ErrCodeStack
		}
		wantTree(t, "joined from the right", inMain(right), e)
	}
}

// A receive's message is one value more, and so is a case's.
func TestP19_1CodeStackOfMessages(t *testing.T) {
	one := integer(1)
	for _, inner := range []api.Tree{receive(clause(one, call("self"))), receive(after(call("self"), call("self"))), choice(call("self"), clause(one, call("self"))), equal(variable("X"), call("self"))} {
		for n, e := range map[int]api.Errno{299: api.OK, 300: api.ErrCodeStack} {
			x := tuple(append(repeated(one, n-254), inner)...)
			wantTree(t, "a message behind many values", inMain(tuple(append(repeated(one, 254), x)...)), e)
		}
	}
}

// What layer 18 says of terms and patterns: a TBytes that layer 17 takes is too
// great a term with 4096 bytes, and a pattern may be too deep or too great.
func TestP19_1CodeIns(t *testing.T) {
	one := integer(1)
	for _, x := range []api.Tree{
		inMain(raw(4095)), inMain(equal(raw(4095), one)), inMain(equal(tuple(raw(4094)), one)), inMain(equal(tuple(raw(2046), raw(2047)), one)), inMain(tuple(raw(4095), raw(4095))), inMain(equal(deepTuple(24), one)), inMain(choice(one, clause(deepTuple(24), one))),
	} {
		wantTree(t, "as great as may be", x, api.OK)
	}
	for _, x := range []api.Tree{
		inMain(raw(4096)), inMain(equal(raw(4096), one)), inMain(equal(tuple(raw(4095)), one)), inMain(equal(tuple(raw(2047), raw(2047)), one)), inMain(equal(deepTuple(25), one)), inMain(choice(one, clause(deepTuple(25), one))), inMain(receive(clause(deepTuple(60), one))), inMain(tuple(raw(4096))),
	} {
		wantTree(t, "too great for an instruction", x, api.ErrCodeIns)
	}
}

// R1: what is wrong with the tree goes ahead of what is wrong with the code, in
// whichever function it is; and of what is wrong with the code the first.
func TestR1TreeAheadOfCode(t *testing.T) {
	long := inMain(exactly(4001)...).L[0]
	tall := inMain(high(301)).L[0]
	deep := inMain(equal(deepTuple(25), integer(1))).L[0]
	for e, l := range checkFaults() {
		for _, x := range l {
			if e == api.ErrCheckMany || e == api.ErrCheckTree && x.Kind != api.TProg {
				continue
			}
			for _, bad := range []api.Tree{long, tall, deep} {
				bad = copied(bad)
				if bad.S = "bad"; e == api.ErrCheckMain {
					bad.L = append([]api.Tree{variable("A")}, bad.L...)
				}
				ahead, behind := copied(x), copied(x)
				ahead.L = append([]api.Tree{bad}, ahead.L...)
				behind.L = append(behind.L, bad)
				wantTree(t, "the tree is wrong, behind wrong code", ahead, e)
				wantTree(t, "the tree is wrong, ahead of wrong code", behind, e)
			}
		}
	}
	one := integer(1)
	for _, x := range []api.Tree{inMain(repeated(one, 3998)...), inMain(append([]api.Tree{tuple(repeated(one, 257)...)}, exactly(4800)...)...), inMain(append([]api.Tree{high(301)}, repeated(one, 3700)...)...)} {
		wantTree(t, "too many parts, and too many instructions", x, api.ErrCheckMany)
	}
	wantTree(t, "an unbound name, and too many instructions", inMain(append(exactly(4001), variable("X"))...), api.ErrCheckVar)
}

func TestR1FirstOfCode(t *testing.T) {
	one := integer(1)
	fun := func(name string, x ...api.Tree) api.Tree { return tree(api.TFun, name, body(x...)) }
	long, tall, deep := exactly(4001), []api.Tree{high(301)}, []api.Tree{equal(deepTuple(25), one)}
	wantTree(t, "too many ahead of too high", inMain(append(slices.Clone(tall), long...)...), api.ErrCodeMany)
	wantTree(t, "too many ahead of too deep", inMain(append(slices.Clone(deep), long...)...), api.ErrCodeMany)
	wantTree(t, "too deep ahead of too high", inMain(append(slices.Clone(tall), deep...)...), api.ErrCodeIns)
	wantTree(t, "the first function's", program(fun("main", tall...), fun("f", long...)), api.ErrCodeStack)
	wantTree(t, "the first function's", program(fun("main", long...), fun("f", tall...)), api.ErrCodeMany)
	wantTree(t, "the first function's", program(fun("f", deep...), fun("main", one), fun("g", tall...)), api.ErrCodeIns)
	wantTree(t, "the first function's", program(fun("f", one), fun("main", tall...), fun("g", deep...)), api.ErrCodeStack)
}

// Trees that Parse would never answer, but that are right: nested deeper than a
// text may be, joined from the right, and of more tokens than a text may have.
func TestP19_1TreesOfNoText(t *testing.T) {
	one := integer(1)
	for _, n := range []int{41, 100, 1500} {
		for _, around := range []func(x api.Tree) api.Tree{
			func(x api.Tree) api.Tree { return tuple(x) },
			func(x api.Tree) api.Tree { return neg(x) },
			func(x api.Tree) api.Tree { return call("hd", x) },
			func(x api.Tree) api.Tree { return plus(x, one) },
			func(x api.Tree) api.Tree { return equal(one, x) },
			func(x api.Tree) api.Tree { return tree(api.TSend, "", x, one) },
		} {
			x := one
			for range n {
				x = around(x)
			}
			wantTree(t, "deep", inMain(x), deepError(inMain(x)))
			wantTree(t, "deep, not last", inMain(x, one), deepError(inMain(x, one)))
		}
	}
	for _, n := range []int{41, 200, 590} {
		for _, around := range []func(x api.Tree) api.Tree{
			func(x api.Tree) api.Tree { return choice(one, clause(one, x)) },
			func(x api.Tree) api.Tree { return choice(x, clause(one, one)) },
			func(x api.Tree) api.Tree { return receive(clause(one, x)) },
			func(x api.Tree) api.Tree { return receive(after(x, one)) },
			func(x api.Tree) api.Tree { return receive(after(one, x)) },
		} {
			x := one
			for range n {
				x = around(x)
			}
			wantTree(t, "deep", inMain(x), deepError(inMain(x)))
			wantTree(t, "deep, not last", inMain(x, one), deepError(inMain(x, one)))
		}
	}
	l, e := comp.Compile(inMain(choice(one, clause(one, choice(one, clause(one, choice(one, clause(one, call("main")))))))))
	want := placed("Push 1, Match 1 else <a>, Pop, Push 1, Match 1 else <b>, Pop, Push 1, Match 1 else <c>, Pop, Tail 0/0, <c>:, Fail 2, <b>:, Fail 2, <a>:, Fail 2")
	if e != api.OK || insTexts(l[0].Ins) != want {
		t.Errorf("P19.1: cases in one another: %s, %d; want %s", showFuns(l), e, want)
	}
}

// deepError: code's error of what is worked out apart.
func deepError(x api.Tree) api.Errno {
	if e := check.Check(x); e != api.OK {
		return e
	}
	_, _, e := code.Check(asked(x))
	return e
}

// A program may have 64 functions, which stand in their order.
func TestP19_1AllFunctions(t *testing.T) {
	var l []api.Tree
	for i := range api.MaxFuns {
		name := fmt.Sprint("f", i)
		if i == 40 {
			name = "main"
		}
		next := fmt.Sprint("f", (i+7)%api.MaxFuns)
		if (i+7)%api.MaxFuns == 40 {
			next = "main"
		}
		l = append(l, function(name, call(next)))
	}
	x := program(l...)
	wantTree(t, "64 functions", x, api.OK)
	got, _ := comp.Compile(x)
	for i, f := range got {
		if want := fmt.Sprintf("Tail %d/0", (i+7)%api.MaxFuns); f.Name != l[i].S || f.Arity != 0 || f.Slots != 0 || insTexts(f.Ins) != want {
			t.Errorf("P19.1: function %d of 64: %s; want %s", i, showFuns(got[i:i+1]), want)
		}
	}
	if len(got) != 64 {
		t.Errorf("P19.1: %d functions; want 64", len(got))
	}
	wantTree(t, "65 functions", program(append(l, function("f64", integer(1)))...), api.ErrCheckMany)
}

// R3: lists of a tree that are empty and that are nil are the same.
func TestR3Empty(t *testing.T) {
	full := func(x api.Tree) api.Tree {
		x = copied(x)
		for _, p := range all(&x) {
			p.B = append([]byte{}, p.B...)
			p.L = append([]api.Tree{}, p.L...)
		}
		return x
	}
	none := func(x api.Tree) api.Tree {
		x = copied(x)
		for _, p := range all(&x) {
			p.B = append([]byte(nil), p.B...)
			p.L = append([]api.Tree(nil), p.L...)
		}
		return x
	}
	for _, s := range append(manyTexts(1), `main() -> {}, [], "", {} = [], [] = {}, "" = main().`) {
		x, ok := taken(s)
		if !ok {
			continue
		}
		a, e1 := comp.Compile(full(x))
		b, e2 := comp.Compile(none(x))
		if e1 != e2 || !sameFuns(a, b) {
			t.Errorf("R3: %s: with empty lists %s, %d; with nil ones %s, %d", brief(s), showFuns(a), e1, showFuns(b), e2)
		}
	}
	for _, x := range []api.Tree{full(program()), none(program()), full(api.Tree{}), none(api.Tree{})} {
		if l, e := comp.Compile(x); len(l) != 0 || e == api.OK {
			t.Errorf("R3: Compile of %s: %s, %d", show(x), showFuns(l), e)
		}
	}
}

// P1: trees that hold themselves, and very great ones.
func TestP1Trees(t *testing.T) {
	own := api.Tree{Kind: api.TTuple, L: make([]api.Tree, 1)}
	own.L[0] = own
	own.L[0].L = own.L
	twice := tuple(make([]api.Tree, 2)...)
	twice.L[0], twice.L[1] = twice, twice
	one := integer(1)
	for _, x := range []api.Tree{own, twice, inMain(own), inMain(twice), program(own), inMain(equal(own, one)), inMain(choice(one, clause(twice, one))), {Kind: api.TProg, L: make([]api.Tree, 1<<20)}, inMain(repeated(one, 1<<18)...), inMain(deepTuple(1 << 15))} {
		if l, e := comp.Compile(x); len(l) != 0 || e != api.ErrCheckMany {
			t.Errorf("P1: a tree without end: %s, %d", showFuns(l), e)
		}
	}
	wantTree(t, "P1: very many bytes", inMain(raw(1<<24)), api.ErrCheckTree)
	wantTree(t, "P1: a very long name", inMain(atomic(strings.Repeat("a", 1<<24))), api.ErrCheckTree)
}
