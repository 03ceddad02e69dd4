package check_test

import (
	"strconv"
	"strings"
	"testing"

	"rookery/api"
	"rookery/check"
)

// withParts: a program of so many parts in all, made right or wrong by x.
func withParts(t *testing.T, n int, x api.Tree) api.Tree {
	t.Helper()
	p := inMain(x)
	has := len(all(&p))
	p = inMain(append(repeated(integer(1), n-has), x)...)
	if got := len(all(&p)); got != n {
		t.Fatalf("%d parts; want %d", got, n)
	}
	return p
}

// chain: x within so many parts of one another, each made by wrap.
func chain(x api.Tree, n int, wrap func(x api.Tree) api.Tree) api.Tree {
	for range n {
		x = wrap(x)
	}
	return x
}

func TestP17_1Parts4000(t *testing.T) {
	for _, n := range []int{5, 3999, 4000} {
		wantCheck(t, "as many parts as may be", withParts(t, n, integer(1)), api.OK)
		wantCheck(t, "as many parts as may be, one of them wrong", withParts(t, n, api.Tree{}), api.ErrCheckTree)
	}
	for _, n := range []int{4001, 4002, 8000, 100000} {
		wantCheck(t, "too many parts", withParts(t, n, integer(1)), api.ErrCheckMany)
		wantCheck(t, "too many parts, one of them wrong", withParts(t, n, api.Tree{}), api.ErrCheckMany)
	}
	for kind := range 21 {
		for _, n := range []int{4000, 4001, 4002} {
			e := api.ErrCheckTree
			if n > 4000 {
				e = api.ErrCheckMany
			}
			wantCheck(t, "of any kind", api.Tree{Kind: kind, L: make([]api.Tree, n-1)}, e)
			wantCheck(t, "of any kind, in two lists", api.Tree{Kind: kind, L: []api.Tree{{L: make([]api.Tree, 1000)}, {L: make([]api.Tree, n-1003)}}}, e)
			wantCheck(t, "one in the other", chain(api.Tree{}, n-1, func(x api.Tree) api.Tree { return tree(kind, "", x) }), e)
		}
	}
}

// Parts of each kind of which a right program may have very many, up to 4000 in
// all and one more.
func TestP17_1WideAndDeep(t *testing.T) {
	one := integer(1)
	for what, wrap := range map[string]func(x api.Tree) api.Tree{
		"tuples": func(x api.Tree) api.Tree { return tuple(x) }, "lists": func(x api.Tree) api.Tree { return tree(api.TList, "", x) }, "negs": func(x api.Tree) api.Tree { return tree(api.TNeg, "", x) }, "calls": func(x api.Tree) api.Tree { return call("hd", x) },
	} {
		p := inMain(chain(one, 3996, wrap))
		wantCheck(t, "very deep: "+what, p, api.OK)
		wantCheck(t, "too deep: "+what, inMain(chain(one, 3997, wrap)), api.ErrCheckMany)
		wantCheck(t, "much too deep: "+what, inMain(chain(one, 60000, wrap)), api.ErrCheckMany)
		wantCheck(t, "very deep, and wrong: "+what, inMain(chain(variable("X"), 3996, wrap)), api.ErrCheckVar)
		wantCheck(t, "very deep, and wrong: "+what, inMain(chain(call("f"), 3996, wrap)), api.ErrCheckCall)
		wantCheck(t, "very deep, and of no kind: "+what, inMain(chain(api.Tree{}, 3996, wrap)), api.ErrCheckTree)
	}
	for what, wrap := range map[string]func(x api.Tree) api.Tree{
		"sums from the left": func(x api.Tree) api.Tree { return tree(api.TBin, "+", x, one) }, "sums from the right": func(x api.Tree) api.Tree { return tree(api.TBin, "+", one, x) }, "=": func(x api.Tree) api.Tree { return equal(one, x) }, "!": func(x api.Tree) api.Tree { return tree(api.TSend, "", x, one) },
	} {
		wantCheck(t, "very deep: "+what, inMain(chain(one, 1998, wrap)), api.OK)
		wantCheck(t, "too deep: "+what, inMain(chain(one, 1999, wrap)), api.ErrCheckMany)
		wantCheck(t, "very deep, and wrong: "+what, inMain(chain(variable("X"), 1998, wrap)), api.ErrCheckVar)
	}
	for what, wrap := range map[string]func(x api.Tree) api.Tree{
		"cases": func(x api.Tree) api.Tree { return choice(one, clause(one, x)) }, "receives": func(x api.Tree) api.Tree { return receive(clause(one, x)) }, "afters": func(x api.Tree) api.Tree { return receive(after(x, one)) }, "afters' bodies": func(x api.Tree) api.Tree { return receive(after(one, x)) }, "cases' expressions": func(x api.Tree) api.Tree { return choice(x, clause(one, one)) },
	} {
		x := wrap(one)
		n := (4000 - 4) / (len(all(&x)) - 1)
		wantCheck(t, "very deep: "+what, inMain(chain(one, n, wrap)), api.OK)
		wantCheck(t, "very deep, and wrong: "+what, inMain(chain(variable("X"), n, wrap)), api.ErrCheckVar)
		wantCheck(t, "too deep: "+what, inMain(chain(one, n+1, wrap)), api.ErrCheckMany)
	}
	wantCheck(t, "very wide: a body", inMain(repeated(one, 3997)...), api.OK)
	wantCheck(t, "too wide: a body", inMain(repeated(one, 3998)...), api.ErrCheckMany)
	wantCheck(t, "very wide: clauses", inMain(choice(one, repeated(clause(one, one), 998)...)), api.OK)
	wantCheck(t, "too wide: clauses", inMain(choice(one, repeated(clause(one, one), 999)...)), api.ErrCheckMany)
	wantCheck(t, "much too wide", inMain(repeated(one, 1000000)...), api.ErrCheckMany)
}

func manyFunctions(n int) api.Tree {
	p := program(function("main", integer(1)))
	for _, s := range numbered("f", n-1) {
		p.L = append(p.L, function(s, integer(1)))
	}
	return p
}

func TestP17_1Functions64(t *testing.T) {
	for _, n := range []int{1, 2, 63, 64} {
		wantCheck(t, "as many functions as may be", manyFunctions(n), api.OK)
	}
	for _, n := range []int{65, 66, 128, 1000} {
		wantCheck(t, "too many functions", manyFunctions(n), api.ErrCheckMany)
		wantCheck(t, "too many functions of one name", program(repeated(function("f", integer(1)), n)...), api.ErrCheckMany)
	}
	wantCheck(t, "no function", program(), api.ErrCheckMain)
}

func TestP17_1Params8(t *testing.T) {
	one := integer(1)
	main := function("main", one)
	for n := range 9 {
		wantCheck(t, "as many parameters as may be", program(main, function("f", one, numbered("A", n)...)), api.OK)
		wantCheck(t, "as many _ as may be", program(function("f", one, strings.Fields(strings.Repeat("_ ", n))...), main), api.OK)
	}
	for _, n := range []int{9, 10, 64, 65, 1000} {
		wantCheck(t, "too many parameters", program(main, function("f", one, numbered("A", n)...)), api.ErrCheckMany)
		wantCheck(t, "too many parameters", program(function("f", one, numbered("A", n)...), main), api.ErrCheckMany)
		wantCheck(t, "too many _", program(main, function("f", one, strings.Fields(strings.Repeat("_ ", n))...)), api.ErrCheckMany)
		wantCheck(t, "main with too many parameters", program(function("main", one, numbered("A", n)...)), api.ErrCheckMany)
	}
}

func TestP17_1Args8(t *testing.T) {
	one := integer(1)
	for n := range 9 {
		p := program(function("main", call("f", repeated(one, n)...)), function("f", one, numbered("A", n)...))
		wantCheck(t, "as many arguments as may be", p, api.OK)
	}
	for _, n := range []int{9, 10, 256, 257, 1000} {
		for _, name := range []string{"f", "nobody", "main", "self", "cons"} {
			x := call(name, repeated(one, n)...)
			wantCheck(t, "too many arguments", program(function("main", x), function("f", one, "A")), api.ErrCheckMany)
			wantEverywhere(t, "too many arguments", x, api.ErrCheckMany)
		}
	}
}

func TestP17_1Wide256(t *testing.T) {
	for _, kind := range []int{api.TTuple, api.TList} {
		for _, n := range []int{0, 1, 8, 9, 255, 256} {
			wantEverywhere(t, "as wide as may be", tree(kind, "", repeated(integer(1), n)...), api.OK)
			wantCheck(t, "a pattern as wide as may be", inMain(equal(tree(kind, "", repeated(variable("_"), n)...), integer(1))), api.OK)
		}
		for _, n := range []int{257, 258, 512, 3000} {
			wantEverywhere(t, "too wide", tree(kind, "", repeated(integer(1), n)...), api.ErrCheckMany)
			wantCheck(t, "a pattern that is too wide", inMain(equal(tree(kind, "", repeated(variable("_"), n)...), integer(1))), api.ErrCheckMany)
			wantCheck(t, "a pattern that is too wide", inMain(choice(integer(1), clause(tuple(tree(kind, "", repeated(integer(1), n)...)), integer(1)))), api.ErrCheckMany)
		}
	}
	wantCheck(t, "other lists may be wider: a body", inMain(repeated(integer(1), 257)...), api.OK)
	wantCheck(t, "other lists may be wider: clauses", inMain(choice(integer(1), repeated(clause(integer(1), integer(1)), 257)...)), api.OK)
}

// bindingMany: a function that binds so many names, half of them by a pattern.
func bindingMany(name string, n int, params ...string) api.Tree {
	f := function(name, integer(1), params...)
	b := &f.L[len(f.L)-1]
	names := numbered("N", n)
	b.L = append(b.L, equal(tuple(variables(names[:n/2]...)...), integer(1)))
	for _, s := range names[n/2:] {
		b.L = append(b.L, equal(variable(s), integer(1)))
	}
	b.L = append(b.L, variables(names...)...)
	return f
}

func TestP17_1Names64(t *testing.T) {
	one := integer(1)
	main := function("main", one)
	for _, n := range []int{0, 1, 63, 64} {
		wantCheck(t, "as many names as may be", program(bindingMany("main", n)), api.OK)
		wantCheck(t, "as many names as may be, twice", program(main, bindingMany("f", n), bindingMany("g", n)), api.OK)
		f := bindingMany("f", n)
		f.L[0].L = append(f.L[0].L, repeated(equal(variable("_"), tuple(one)), 300)...)
		wantCheck(t, "_ is not counted", program(main, f), api.OK)
	}
	for _, n := range []int{65, 66, 100, 400} {
		wantCheck(t, "too many names", program(bindingMany("main", n)), api.ErrCheckMany)
		wantCheck(t, "too many names", program(main, bindingMany("f", 3), bindingMany("g", n)), api.ErrCheckMany)
		wantCheck(t, "too many names that are not bound", inMain(variables(numbered("N", n)...)...), api.ErrCheckMany)
	}
	wantCheck(t, "parameters are counted", program(main, bindingMany("f", 56, numbered("P", 8)...)), api.OK)
	wantCheck(t, "parameters are counted", program(main, bindingMany("f", 57, numbered("P", 8)...)), api.ErrCheckMany)
	wantCheck(t, "_ as a parameter is not counted", program(main, bindingMany("f", 64, "_", "_")), api.OK)
	wantCheck(t, "names of parameters again are counted once", program(main, bindingMany("f", 64, numbered("N", 8)...)), api.OK)
	f := bindingMany("f", 64)
	f.L[0].L = append(f.L[0].L, f.L[0].L...)
	wantCheck(t, "names that stand often are counted once", program(main, f), api.OK)
	var clauses []api.Tree
	for i := range 65 {
		clauses = append(clauses, clause(variable("C"+strconv.Itoa(i)), one))
	}
	wantCheck(t, "names of clauses", inMain(choice(one, clauses[:64]...)), api.OK)
	wantCheck(t, "names of clauses are counted, too", inMain(choice(one, clauses...)), api.ErrCheckMany)
	wantCheck(t, "64 names that are not bound", inMain(variables(numbered("N", 64)...)...), api.ErrCheckVar)
}

// A tree that holds itself has parts without end.
func TestP1HoldsItself(t *testing.T) {
	for kind := range 20 {
		l := make([]api.Tree, 2)
		l[0] = variable("X")
		l[1] = api.Tree{Kind: kind, S: "a", L: l}
		for _, x := range []api.Tree{l[1], program(l...), program(function("main", l[1]))} {
			if e := check.Check(x); e != api.ErrCheckMany {
				t.Errorf("P1: a tree that holds itself: %d", e)
			}
		}
		check.Slots(tree(api.TFun, "f", l...))
	}
}
