package check_test

import (
	"slices"
	"strconv"
	"testing"

	"rookery/api"
)

// fault: something wrong, and the place of its error in the chapter's order. It
// is an expression, functions, or something that is done to a whole program.
type fault struct {
	rank  int
	e     api.Errno
	what  string
	expr  *api.Tree
	funs  []api.Tree
	whole func(p *api.Tree)
}

func wrongExpr(rank int, e api.Errno, what string, x api.Tree) fault {
	return fault{rank: rank, e: e, what: what, expr: &x}
}

func wrongFuns(rank int, e api.Errno, what string, l ...api.Tree) fault {
	return fault{rank: rank, e: e, what: what, funs: l}
}

func wrongWhole(rank int, e api.Errno, what string, f func(p *api.Tree)) fault {
	return fault{rank: rank, e: e, what: what, whole: f}
}

// treeFaults: those of the second step.
func treeFaults() []fault {
	const rank, e = 2, api.ErrCheckTree
	one := integer(1)
	return []fault{
		wrongExpr(rank, e, "no kind", api.Tree{}), wrongExpr(rank, e, "a body as an expression", body(one)), wrongExpr(rank, e, "an int below 0", integer(-1)), wrongExpr(rank, e, "no sign", tree(api.TBin, "and", one, one)), wrongExpr(rank, e, "no atom", atomic("end")), wrongExpr(rank, e, "no name", variable("x")), wrongExpr(rank, e, "too many bytes", raw(4097)), wrongExpr(rank, e, "a field", api.Tree{Kind: api.TInt, S: "s"}), wrongExpr(rank, e, "a case without a clause", choice(one)), wrongExpr(rank, e, "a receive with nothing in it", receive()), wrongExpr(rank, e, "no call's name", call("Nobody")),
		wrongFuns(rank, e, "a function without a body", tree(api.TFun, "nobody2")), wrongFuns(rank, e, "a function's name", function("case", one)), wrongFuns(rank, e, "a parameter that is none", tree(api.TFun, "param2", one, body(one))), wrongFuns(rank, e, "an expression as a function", one),
		wrongWhole(rank, e, "no program", func(p *api.Tree) { p.Kind = api.TBody }), wrongWhole(rank, e, "a program's field", func(p *api.Tree) { p.N = 1 }), wrongWhole(rank, e, "a program's name", func(p *api.Tree) { p.S = "main" }), wrongWhole(rank, e, "a program's bytes", func(p *api.Tree) { p.B = []byte{0} }),
	}
}

// manyFaults: those of the third step.
func manyFaults() []fault {
	const rank, e = 3, api.ErrCheckMany
	one := integer(1)
	var funs []api.Tree
	for _, s := range numbered("many3f", 65) {
		funs = append(funs, function(s, one))
	}
	return []fault{
		wrongExpr(rank, e, "a wide tuple", tuple(repeated(one, 257)...)), wrongExpr(rank, e, "a wide list", tree(api.TList, "", repeated(one, 257)...)), wrongExpr(rank, e, "arguments", call("hd", repeated(one, 9)...)),
		wrongFuns(rank, e, "parameters", function("many3a", one, numbered("A", 9)...)), wrongFuns(rank, e, "names", bindingMany("many3b", 65)), wrongFuns(rank, e, "functions", funs...),
	}
}

func faults(t testing.TB) []fault {
	one := integer(1)
	text := func(rank int, e api.Errno, s string) fault { return wrongExpr(rank, e, s, parseExpr(t, s)) }
	l := []fault{wrongFuns(1, api.ErrCheckMany, "4001 parts", tree(api.TFun, "many1", body(repeated(one, 4001)...)))}
	l = slices.Concat(l, treeFaults(), manyFaults())
	return append(l,
		wrongFuns(4, api.ErrCheckTwice, "a function twice", function("twice4", one), function("twice4", one)), wrongFuns(4, api.ErrCheckTwice, "a parameter twice", function("param4", one, "A", "A")),
		wrongFuns(5, api.ErrCheckName, "a builtin's name", function("hd", one, "A")), wrongFuns(5, api.ErrCheckName, "a builtin's name", function("self", one)),
		text(6, api.ErrCheckPattern, "1 + 2 = 3"), text(6, api.ErrCheckPattern, "case 1 of - a -> 1 end"), text(6, api.ErrCheckPattern, "receive self() -> 1 end"), text(6, api.ErrCheckPattern, "{[1 = 2]} = 3"),
		text(7, api.ErrCheckVar, "Free"), text(7, api.ErrCheckVar, "_"), text(7, api.ErrCheckVar, "Bound = Bound"),
		text(8, api.ErrCheckCall, "nobody()"), text(8, api.ErrCheckCall, "hd()"), text(8, api.ErrCheckCall, "main(1, 2)"),
		wrongWhole(9, api.ErrCheckMain, "no main", func(p *api.Tree) { p.L = slices.DeleteFunc(slices.Clone(p.L), isMain) }), wrongWhole(9, api.ErrCheckMain, "main with a parameter", func(p *api.Tree) {
			i := slices.IndexFunc(p.L, isMain)
			p.L = slices.Clone(p.L)
			p.L[i].L = append([]api.Tree{variable("Main")}, p.L[i].L...)
		}))
}

func isMain(f api.Tree) bool { return f.Kind == api.TFun && f.S == "main" }

// functions: those of the fault, its expression in one that has this name.
func (f fault) functions(name string) []api.Tree {
	if f.expr != nil {
		return []api.Tree{function(name, *f.expr)}
	}
	return f.funs
}

// withFaults: programs with both, in both orders and ahead of main and behind it.
func withFaults(a, b fault) []api.Tree {
	main := []api.Tree{function("main", integer(1))}
	fa, fb := a.functions("holder1"), b.functions("holder2")
	var out []api.Tree
	for _, l := range [][]api.Tree{slices.Concat(main, fa, fb), slices.Concat(main, fb, fa), slices.Concat(fa, main, fb), slices.Concat(fb, main, fa), slices.Concat(fa, fb, main), slices.Concat(fb, fa, main)} {
		out = append(out, program(l...))
	}
	if a.expr != nil && b.expr != nil {
		for _, x := range []api.Tree{tuple(*a.expr, *b.expr), tuple(*b.expr, *a.expr), tree(api.TSend, "", *a.expr, *b.expr), tree(api.TSend, "", *b.expr, *a.expr), choice(*a.expr, clause(integer(1), *b.expr)), choice(*b.expr, clause(integer(1), *a.expr)), receive(after(*a.expr, *b.expr)), receive(clause(integer(1), *a.expr), after(*b.expr, integer(1)))} {
			out = append(out, program(append(main, function("both", x))...))
		}
		out = append(out, program(append(main, tree(api.TFun, "both", body(*a.expr, *b.expr)))...), program(append(main, tree(api.TFun, "both", body(*b.expr, *a.expr)))...))
		out = append(out, inside(*a.expr, *b.expr)...)
		out = append(out, inside(*b.expr, *a.expr)...)
	}
	for i := range out {
		for _, f := range []fault{a, b} {
			if f.whole != nil {
				f.whole(&out[i])
			}
		}
	}
	return out
}

// inside: x in the place of each part of y that is an int.
func inside(x, y api.Tree) []api.Tree {
	var out []api.Tree
	for i, p := range flat(y, 1<<20) {
		if i > 0 && p.Kind == api.TInt && i < 12 {
			z := copied(y)
			*all(&z)[i] = copied(x)
			out = append(out, program(function("main", integer(1)), function("both", z)))
		}
	}
	return out
}

func TestP17_1EachAlone(t *testing.T) {
	for _, f := range faults(t) {
		for _, p := range withFaults(f, fault{}) {
			wantCheck(t, f.what, p, f.e)
		}
	}
}

// For each two of the steps a tree of which both are so: the one that the
// chapter names first is told, wherever both stand.
func TestP17_1FirstOfTwo(t *testing.T) {
	seen := map[[2]int]int{}
	l := faults(t)
	for i, a := range l {
		for _, b := range l[i+1:] {
			if a.rank == b.rank {
				continue
			}
			for _, p := range withFaults(a, b) {
				seen[[2]int{a.rank, b.rank}]++
				wantCheck(t, a.what+" and "+b.what, p, a.e)
			}
		}
	}
	if len(seen) != 9*8/2 {
		t.Errorf("only %d pairs of steps", len(seen))
	}
}

// All that is wrong at once, from each step on.
func TestP17_1FirstOfAll(t *testing.T) {
	l := faults(t)
	for len(l) > 0 {
		p := program(function("main", integer(1)))
		for i, f := range l {
			p.L = append(f.functions("all"+strconv.Itoa(i)), p.L...)
		}
		for _, f := range l {
			if f.whole != nil && f.what != "main with a parameter" {
				f.whole(&p)
			}
		}
		wantCheck(t, "all that come behind "+l[0].what, p, l[0].e)
		first := l[0].rank
		l = slices.DeleteFunc(l, func(f fault) bool { return f.rank == first })
	}
}
