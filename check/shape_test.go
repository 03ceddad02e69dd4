package check_test

import (
	"math"
	"slices"
	"strings"
	"testing"

	"rookery/api"
)

// rightOf: of each kind a part that is right, with each number of parts that
// its form tells apart.
func rightOf(t testing.TB, kind int) []api.Tree {
	one := integer(1)
	texts := map[int][]string{
		api.TInt: {"1"}, api.TAtom: {"a"}, api.TBytes: {`"q"`, `""`},
		api.TTuple: {"{}", "{1}", "{1, a, {}}"}, api.TList: {"[]", "[1]", "[1, [], a]"},
		api.TNeg: {"- 1", "- a"}, api.TBin: {"1 + 2"}, api.TEqual: {"1 = 2", "{} = 2"}, api.TSend: {"1 ! 2"},
		api.TCall: {"self()", "hd(1)", "spawn(1, 2, 3)"},
		api.TCase: {"case 1 of 2 -> 3 end", "case 1 of 2 -> 3; 4 -> 5; 6 -> 7 end"},
		api.TRecv: {"receive 1 -> 2 end", "receive after 1 -> 2 end", "receive 1 -> 2; 3 -> 4 end", "receive 1 -> 2; 3 -> 4 after 5 -> 6 end"},
	}
	var out []api.Tree
	for _, s := range texts[kind] {
		out = append(out, parseExpr(t, s))
	}
	switch kind {
	case api.TVar:
		return []api.Tree{variable("X")}
	case api.TAfter:
		return []api.Tree{after(one, one)}
	case api.TClause:
		return []api.Tree{clause(one, one)}
	case api.TBody:
		return []api.Tree{body(one), body(one, one)}
	case api.TFun:
		return []api.Tree{function("f", one), function("f", one, "A"), function("f", one, "A", "B")}
	case api.TProg:
		return []api.Tree{program(), program(function("main", one)), program(function("main", one), function("f", one))}
	}
	return out
}

// around: x in a program in which a part of its kind may stand.
func around(x api.Tree) api.Tree {
	switch x.Kind {
	case api.TVar:
		return program(tree(api.TFun, "main", body(equal(x, integer(1)))))
	case api.TAfter, api.TClause:
		return inMain(receive(x))
	case api.TBody:
		return program(tree(api.TFun, "main", x))
	case api.TFun:
		return program(function("main", integer(1)), x)
	case api.TProg:
		return x
	}
	return inMain(x)
}

func wantShape(t testing.TB, what string, x api.Tree) {
	t.Helper()
	wantCheck(t, what, x, api.ErrCheckTree)
}

func TestP17_1RightOfEachKind(t *testing.T) {
	for kind := api.TInt; kind <= api.TProg; kind++ {
		l := rightOf(t, kind)
		if len(l) == 0 {
			t.Fatalf("no part of kind %d", kind)
		}
		for _, x := range l {
			e := api.OK
			if kind == api.TProg && len(x.L) == 0 {
				e = api.ErrCheckMain
			}
			wantCheck(t, "a right one", around(x), e)
		}
	}
}

func oddKinds() []int {
	return []int{0, 19, 20, -1, -2, -18, 255, 256 + 1, 1<<32 + 1, 1<<32 + 18, math.MaxInt, math.MinInt, math.MinInt + 1}
}

func TestP17_1NoProgram(t *testing.T) {
	wantShape(t, "the zero tree", api.Tree{})
	wantShape(t, "the zero tree with an empty list", api.Tree{L: []api.Tree{}})
	wantShape(t, "zero trees", api.Tree{L: make([]api.Tree, 3)})
	for kind := api.TInt; kind < api.TProg; kind++ {
		wantShape(t, "a kind alone", api.Tree{Kind: kind})
		for _, x := range rightOf(t, kind) {
			wantShape(t, "a right part that is no program", x)
			wantShape(t, "a program that holds a part that is no function", func() api.Tree {
				if kind == api.TFun {
					return program(program(x))
				}
				return program(function("main", integer(1)), x)
			}())
		}
		wantShape(t, "a kind with a function in it", tree(kind, "", function("main", integer(1))))
		wantShape(t, "a kind with a name and a function in it", tree(kind, "a", function("main", integer(1))))
	}
	for _, kind := range oddKinds() {
		wantShape(t, "an odd kind", api.Tree{Kind: kind})
		wantShape(t, "an odd kind with a function in it", tree(kind, "", function("main", integer(1))))
		for _, p := range places(api.Tree{Kind: kind}) {
			wantShape(t, "an odd kind within", p)
		}
		for _, p := range places(tree(kind, "a", integer(1), integer(1))) {
			wantShape(t, "an odd kind with parts within", p)
		}
		wantShape(t, "an odd kind as a function", program(function("main", integer(1)), api.Tree{Kind: kind}))
	}
	wantShape(t, "a program in a program", program(program()))
	wantShape(t, "a program as an expression", inMain(program(function("main", integer(1)))))
}

// samples: one part of each kind, and of odd ones.
func samples(t testing.TB) []api.Tree {
	var out []api.Tree
	for kind := api.TInt; kind <= api.TProg; kind++ {
		out = append(out, rightOf(t, kind)[0])
	}
	return append(out, api.Tree{}, api.Tree{Kind: 19}, api.Tree{Kind: -1})
}

// mayBe: may the parts in x's L be of these kinds, as chapter 16 says?
func mayBe(x api.Tree) bool {
	kinds := ""
	for _, p := range x.L {
		kinds += string(letter(p.Kind))
	}
	return allShapes[letter(x.Kind)].parts.MatchString(kinds)
}

// Of each kind a part too few, too many, two turned about, and a part of each
// other kind in each place of its L.
func TestP17_1Parts(t *testing.T) {
	refused := 0
	want := func(what string, x api.Tree) {
		if mayBe(x) {
			if e := asked(around(x)); e == api.ErrCheckTree {
				t.Errorf("%s: %s is of no shape", what, show(x))
			} else {
				wantCheck(t, what, around(x), e)
			}
			return
		}
		refused++
		wantShape(t, what, around(x))
	}
	for kind := api.TInt; kind <= api.TProg; kind++ {
		for _, x := range rightOf(t, kind) {
			with := func(l ...[]api.Tree) api.Tree {
				y := x
				y.L = slices.Concat(l...)
				return y
			}
			want("no parts", with())
			for i := range len(x.L) + 1 {
				for _, p := range samples(t) {
					want("a part too many", with(x.L[:i], []api.Tree{p}, x.L[i:]))
					if i < len(x.L) {
						want("a part of another kind", with(x.L[:i], []api.Tree{p}, x.L[i+1:]))
					}
				}
				if i < len(x.L) {
					want("a part too few", with(x.L[:i], x.L[i+1:]))
					want("a part doubled", with(x.L[:i+1], x.L[i:]))
				}
				if i+1 < len(x.L) {
					want("two turned about", with(x.L[:i], x.L[i+1:i+2], x.L[i:i+1], x.L[i+2:]))
				}
			}
		}
	}
	if refused < 1000 {
		t.Errorf("only %d were refused", refused)
	}
}

func TestP17_1PartsByName(t *testing.T) {
	one := integer(1)
	for what, x := range map[string]api.Tree{
		"an after that is not the last": receive(after(one, one), clause(one, one)), "two afters": receive(after(one, one), after(one, one)), "clauses around an after": receive(clause(one, one), after(one, one), clause(one, one)),
		"a receive with nothing in it": receive(), "a receive with an expression in it": receive(one), "a receive with a body in it": receive(body(one)),
		"a case without a clause": choice(one), "a case with nothing in it": tree(api.TCase, ""), "a case with clauses alone": tree(api.TCase, "", clause(one, one), clause(one, one)), "a case with an after": choice(one, after(one, one)), "a case with a clause and an after": choice(one, clause(one, one), after(one, one)), "a case with an expression as clause": choice(one, one), "a case with two expressions": choice(one, one, clause(one, one)),
		"a clause with an empty body": clause(one), "an after with an empty body": after(one), "a clause without its body": tree(api.TClause, "", one), "a clause whose body is an expression": tree(api.TClause, "", one, one), "a clause with two bodies": tree(api.TClause, "", one, body(one), body(one)), "a clause whose pattern is a body": tree(api.TClause, "", body(one), body(one)), "a clause whose pattern is a clause": tree(api.TClause, "", clause(one, one), body(one)), "a clause turned about": tree(api.TClause, "", body(one), one),
		"an after without its body": tree(api.TAfter, "", one), "an after whose expression is a body": tree(api.TAfter, "", body(one), body(one)),
		"a clause as an expression": clause(one, one), "an after as an expression": after(one, one), "a body as an expression": body(one), "an empty body as an expression": body(), "a function as an expression": function("f", one),
		"a neg of nothing": tree(api.TNeg, ""), "a neg of two": tree(api.TNeg, "", one, one), "a neg of a body": tree(api.TNeg, "", body(one)),
		"a sum of one": tree(api.TBin, "+", one), "a sum of three": tree(api.TBin, "+", one, one, one), "a sum of nothing": tree(api.TBin, "+"), "a sum with a clause": tree(api.TBin, "+", one, clause(one, one)), "a sum with a body": tree(api.TBin, "+", body(one), one),
		"an = of one": tree(api.TEqual, "", one), "an = of three": tree(api.TEqual, "", one, one, one), "an = whose left is a body": equal(body(one), one), "an = whose right is a clause": equal(one, clause(one, one)), "an = whose left is of no kind": equal(api.Tree{}, one),
		"a ! of one": tree(api.TSend, "", one), "a ! of three": tree(api.TSend, "", one, one, one), "a ! with a body": tree(api.TSend, "", one, body(one)),
		"a tuple of a body": tuple(body(one)), "a list of a clause": tree(api.TList, "", clause(one, one)), "a call with a body": call("hd", body(one)), "a call with an after": call("hd", after(one, one)),
	} {
		if (x.Kind == api.TClause || x.Kind == api.TAfter) && !strings.HasSuffix(what, "as an expression") {
			wantShape(t, what, inMain(receive(x)))
			wantShape(t, what, inMain(choice(one, x)))
		}
		for _, p := range places(x) {
			wantShape(t, what, p)
		}
	}
	for what, f := range map[string]api.Tree{
		"a function without its body": tree(api.TFun, "f"), "a function with parameters alone": tree(api.TFun, "f", variable("A")), "a function whose body is an expression": tree(api.TFun, "f", one), "a function with an empty body": tree(api.TFun, "f", body()), "a function with two bodies": tree(api.TFun, "f", body(one), body(one)), "a parameter behind the body": tree(api.TFun, "f", body(one), variable("A")),
		"a parameter that is an atom": tree(api.TFun, "f", atomic("a"), body(one)), "a parameter that is an int": tree(api.TFun, "f", one, body(one)), "a parameter that is a tuple": tree(api.TFun, "f", variable("A"), tuple(variable("B")), body(one)), "a parameter of no kind": tree(api.TFun, "f", api.Tree{}, body(one)), "a function with a clause": tree(api.TFun, "f", clause(one, one)), "a body with a clause": tree(api.TFun, "f", body(clause(one, one))), "a body with a body": tree(api.TFun, "f", body(body(one))), "a body with an after": tree(api.TFun, "f", body(one, after(one, one))),
	} {
		wantShape(t, what, program(function("main", one), f))
		wantShape(t, what, program(f, function("main", one)))
	}
}

// Each field that a kind does not name, set; lists without anything in them are
// as good as none (R3).
func TestP17_1Fields(t *testing.T) {
	refused := 0
	for kind := api.TInt; kind <= api.TProg; kind++ {
		for _, x := range rightOf(t, kind) {
			e := asked(around(x))
			named := allShapes[letter(kind)].fields
			set := func(field string, f func(y *api.Tree)) {
				y := copied(x)
				f(&y)
				if !strings.Contains(named, field) {
					refused++
					wantShape(t, "the field "+field, around(y))
				}
			}
			for _, s := range []string{"a", "X", "_", "+", "case", " ", "\x00", strings.Repeat("s", 99)} {
				set("S", func(y *api.Tree) { y.S = s })
			}
			for _, n := range []int64{1, -1, math.MaxInt64, math.MinInt64, 1 << 32, api.MaxInt} {
				set("N", func(y *api.Tree) { y.N = n })
			}
			for _, n := range []int{1, 2, 5000} {
				set("B", func(y *api.Tree) { y.B = make([]byte, n) })
			}
			for _, p := range samples(t) {
				set("L", func(y *api.Tree) { y.L = []api.Tree{p} })
			}
			y := copied(x)
			if len(y.B) == 0 {
				y.B = make([]byte, 0, 3)
			}
			if len(y.L) == 0 {
				y.L = make([]api.Tree, 0, 3)
			}
			wantCheck(t, "R3: empty lists", around(y), e)
			y = copied(x)
			if len(y.B) == 0 {
				y.B = nil
			}
			if len(y.L) == 0 {
				y.L = nil
			}
			wantCheck(t, "R3: nil lists", around(y), e)
		}
	}
	if refused < 300 {
		t.Errorf("only %d were refused", refused)
	}
}

func TestP17_1Ints(t *testing.T) {
	for _, n := range []int64{0, 1, 2, 1 << 32, 1<<62 - 2, 1<<62 - 1} {
		wantEverywhere(t, "an int", integer(n), api.OK)
		wantCheck(t, "an int below 0", inMain(equal(tree(api.TNeg, "", integer(n)), integer(n))), api.OK)
	}
	for _, n := range []int64{-1, -2, 1 << 62, 1<<62 + 1, math.MaxInt64, math.MinInt64, math.MinInt64 + 1, -1 << 62} {
		wantEverywhere(t, "no int", integer(n), api.ErrCheckTree)
		wantShape(t, "no int in a pattern", inMain(equal(integer(n), integer(1))))
		wantShape(t, "no int behind a -", inMain(equal(tree(api.TNeg, "", integer(n)), integer(1))))
	}
}

func TestP17_1Bytes(t *testing.T) {
	for _, n := range []int{0, 1, 255, 256, 4095, 4096} {
		wantEverywhere(t, "bytes", raw(n), api.OK)
	}
	for _, n := range []int{4097, 4098, 8192, 65536, 1 << 20} {
		wantEverywhere(t, "too many bytes", raw(n), api.ErrCheckTree)
		wantShape(t, "too many bytes in a pattern", inMain(equal(raw(n), integer(1))))
	}
	wantCheck(t, "many bytes in all", inMain(repeated(raw(4096), 3000)...), api.OK)
}

func rightAtoms() []string {
	return []string{"a", "z", "aZ", "a_", "a0", "a9Z_z", "x" + strings.Repeat("y", 31), "a" + strings.Repeat("_", 31), "cases", "cas", "ofa", "o", "ends", "receiver", "afters", "remm", "re", "e", "cASE", "of_", "rem1", "main", "hd", "infinity"}
}

func wrongAtoms() []string {
	return []string{"", "A", "_", "_a", "0", "1a", "X", " ", " a", "a ", "a b", "a\n", "a\x00", "a-b", "a.", "a(", "+", "'a'", "\xff", "a\xff", "é", "aé", "{", "`", "a`", "a{", "a@", "a[", "a/", "a:", "x" + strings.Repeat("y", 32), strings.Repeat("x", 64), strings.Repeat("x", 100000), "case", "of", "end", "receive", "after", "rem"}
}

// An atom's, a call's and a function's name.
func TestP17_1AtomNames(t *testing.T) {
	one := integer(1)
	for _, s := range rightAtoms() {
		wantEverywhere(t, "an atom", atomic(s), api.OK)
		wantCheck(t, "an atom in a pattern", inMain(equal(atomic(s), one)), api.OK)
		if s != "main" {
			wantCheck(t, "a call and a function", program(function("main", call(s)), function(s, one)), api.OK)
		}
	}
	for _, s := range wrongAtoms() {
		wantEverywhere(t, "no atom", atomic(s), api.ErrCheckTree)
		wantEverywhere(t, "no call's name", call(s), api.ErrCheckTree)
		wantEverywhere(t, "no call's name", call(s, one), api.ErrCheckTree)
		wantShape(t, "no atom in a pattern", inMain(equal(tuple(atomic(s)), one)))
		wantShape(t, "no atom in a clause", inMain(choice(one, clause(atomic(s), one))))
		wantShape(t, "no function's name", program(function("main", one), function(s, one)))
		wantShape(t, "no function's name", program(function(s, one, "A"), function("main", one)))
		wantShape(t, "a call and a function of no name", program(function("main", call(s)), function(s, one)))
	}
}

func rightNames() []string {
	return []string{"A", "Z", "X1", "X_", "Xy", "XY", "__", "_a", "_A", "_0", "___", "X" + strings.Repeat("y", 31), "_" + strings.Repeat("_", 31), "Case", "End", "Rem"}
}

func wrongNames() []string {
	return []string{"", "a", "x1", "1", "0X", " ", " X", "X ", "X Y", "X\n", "X\x00", "X-", "X.", "\xff", "X\xff", "É", "XÉ", "@", "[", "X@", "X[", "X`", "X{", "X/", "X:", "X" + strings.Repeat("y", 32), "_" + strings.Repeat("_", 32), strings.Repeat("X", 100000), "case", "rem", "_ "}
}

// A variable's name, as a parameter, in a pattern and as an expression.
func TestP17_1VarNames(t *testing.T) {
	one := integer(1)
	for _, s := range rightNames() {
		wantCheck(t, "a name", program(function("main", one), function("f", variable(s), s)), api.OK)
		wantCheck(t, "a name", inMain(equal(variable(s), one), variable(s)), api.OK)
		wantCheck(t, "a name", inMain(choice(one, clause(tuple(variable(s)), variable(s)))), api.OK)
		wantEverywhere(t, "a name that isn't bound", variable(s), api.ErrCheckVar)
	}
	for _, s := range wrongNames() {
		wantShape(t, "no name", program(function("main", one), function("f", one, s)))
		wantShape(t, "no name", program(function("f", variable(s), s), function("main", one)))
		wantShape(t, "no name", inMain(equal(variable(s), one)))
		wantShape(t, "no name", inMain(choice(one, clause(tuple(variable(s)), one))))
		wantEverywhere(t, "no name", variable(s), api.ErrCheckTree)
	}
	wantCheck(t, "_", program(function("main", one), function("f", one, "_")), api.OK)
	wantCheck(t, "_", inMain(equal(variable("_"), one)), api.OK)
	wantCheck(t, "_", inMain(choice(one, clause(variable("_"), one))), api.OK)
}

func TestP17_1Signs(t *testing.T) {
	one := integer(1)
	for _, s := range strings.Fields("== /= < > =< >= + - * / rem") {
		wantEverywhere(t, "a sign", tree(api.TBin, s, one, one), api.OK)
	}
	for _, s := range []string{"", "=", "!", "->", "and", "or", "not", "div", "case", "of", "end", "after", "receive", "rem ", " rem", "Rem", "REM", "re", "rema", "<=", "=>", "!=", "<>", "===", "=/=", "=:=", "++", "--", "+ -", "* /", "== /=", "= =", " ", " +", "+ ", "(", ")", ",", ";", ".", "|", "&", "%", "\x00", "+\x00", "\xff", "1", "a", "X", "< >", strings.Repeat("+", 9999)} {
		wantEverywhere(t, "no sign", tree(api.TBin, s, one, one), api.ErrCheckTree)
	}
}
