package check_test

import (
	"slices"
	"strings"
	"testing"

	"rookery/api"
	"rookery/check"
)

func wantSlots(t testing.TB, what string, f api.Tree, want ...string) {
	t.Helper()
	if got := check.Slots(f); !slices.Equal(got, want) {
		t.Errorf("P17.2: %s: Slots of %s: %d names, %q; want %d, %q", what, show(f), len(got), got[:min(len(got), 12)], len(want), want[:min(len(want), 12)])
	}
}

func TestP17_2Slots(t *testing.T) {
	for s, want := range map[string]string{
		"f() -> 1.": "", "f() -> a, g(b).": "", "f(A) -> 1.": "A", "f(A, B) -> 1.": "A B", "f(B, A) -> A, B.": "B A", "f(_) -> _.": "", "f(_, A, _) -> {_, A}.": "A", "f(B, _) -> A = B, case A of C -> B end.": "B A C",
		"f() -> X = Y.": "X Y", "f() -> {X, Y, X, Z, Y}.": "X Y Z", "f(A, A) -> A.": "A", "f() -> X + Y * - Z.": "X Y Z", "f() -> X ! Y.": "X Y", "f() -> [C, {B, [A]}].": "C B A", "f() -> g(X, h(Y), Z).": "X Y Z",
		"f() -> case X of Y -> Z; V -> W end.": "X Y Z V W", "f() -> receive X -> Y; Z -> V after W -> U end.": "X Y Z V W U", "f() -> receive after X -> Y end.": "X Y", "f() -> _a, __, _, A_, a.": "_a __ A_", "f() -> X, x, Xx, xX, X.": "X Xx",
		"f() -> (A = B) = C.": "A B C",
	} {
		wantSlots(t, "a function", parse(t, s).L[0], strings.Fields(want)...)
	}
	two := parse(t, "f(A) -> B. g(C) -> A.")
	wantSlots(t, "the first of two", two.L[0], "A", "B")
	wantSlots(t, "the second of two", two.L[1], "C", "A")
}

func TestP17_2SlotsOfOthers(t *testing.T) {
	l := []api.Tree{variable("X"), tuple(variable("Y")), body(variable("Z"))}
	for _, kind := range append(oddKinds(), 1, 2, 3, 4, 5, 6, 7, 8, 9, 10, 11, 12, 13, 14, 15, 16, 18) {
		wantSlots(t, "no function", api.Tree{Kind: kind})
		wantSlots(t, "no function", api.Tree{Kind: kind, S: "X"})
		wantSlots(t, "no function", api.Tree{Kind: kind, S: "f", L: l})
		wantSlots(t, "no function, but one in it", tree(kind, "f", function("g", integer(1), "A")))
	}
	wantSlots(t, "a program", parse(t, "f(A) -> B."))
	wantSlots(t, "the zero tree", api.Tree{})
}

// Whatever stands in a function: the names of all TVar in it, as they are.
func TestP17_2SlotsOfOddFunctions(t *testing.T) {
	fun := func(l ...api.Tree) api.Tree { return tree(api.TFun, "F", l...) }
	wantSlots(t, "nothing in it", fun())
	wantSlots(t, "an empty list", api.Tree{Kind: api.TFun, L: []api.Tree{}})
	wantSlots(t, "fields", api.Tree{Kind: api.TFun, S: "X", N: 3, B: []byte("Y")})
	wantSlots(t, "no names", fun(variable(""), variable("a"), variable("_"), variable("_ "), variable("\xff")), "", "a", "_ ", "\xff")
	wantSlots(t, "a long name", fun(variable(strings.Repeat("X", 5000))), strings.Repeat("X", 5000))
	wantSlots(t, "names of others", fun(atomic("X"), call("Y"), tree(api.TBin, "Z"), api.Tree{Kind: api.TInt, S: "V"}, function("W", integer(1))))
	wantSlots(t, "parts in a variable", fun(tree(api.TVar, "X", variable("Y"), tree(api.TVar, "_", variable("Z"))), variable("Y")), "X", "Y", "Z")
	wantSlots(t, "a function in a function", fun(function("g", variable("B"), "A"), program(function("h", variable("D"), "C"))), "A", "B", "C", "D")
	for _, kind := range append(oddKinds(), 1, 2, 4, 5, 6, 7, 8, 9, 10, 11, 12, 13, 14, 15, 16, 17, 18) {
		wantSlots(t, "in any kind", fun(tree(kind, "N", variable("X"), variable("Y")), variable("Z")), "X", "Y", "Z")
	}
}

func TestP17_2SlotsOfMany(t *testing.T) {
	for _, n := range []int{64, 65, 3997, 3998, 3999, 4000, 4001, 10000, 200000} {
		names := numbered("N", n)
		wantSlots(t, "very many names", tree(api.TFun, "f", body(variables(names...)...)), names...)
		wantSlots(t, "very many parameters", tree(api.TFun, "f", append(variables(names...), body(integer(1)))...), names...)
		again := append(variables(names...), variables(names...)...)
		wantSlots(t, "very many names, twice", tree(api.TFun, "f", again...), names...)
		wantSlots(t, "a name behind very many parts", tree(api.TFun, "f", append(repeated(integer(1), n), variable("X"))...), "X")
		wantSlots(t, "one name very often", tree(api.TFun, "f", append(repeated(variable("Y"), n), variable("X"))...), "Y", "X")
		wantSlots(t, "_ very often", tree(api.TFun, "f", append(repeated(variable("_"), n), variable("X"))...), "X")
	}
	for _, n := range []int{100, 4000, 4001, 60000} {
		deep := chain(variable("X"), n, func(x api.Tree) api.Tree { return tuple(x) })
		wantSlots(t, "very deep", tree(api.TFun, "f", deep, variable("Y")), "X", "Y")
	}
}

func TestP17_2SlotsMade(t *testing.T) {
	m := newMaker(172)
	for i := range 4000 {
		x := m.prog(2 + i%4)
		m.spoil(&x)
		for _, p := range all(&x) {
			wantSlots(t, "made", *p, slots(*p)...)
		}
		f := m.odd(4)
		f.Kind = api.TFun
		wantSlots(t, "odd", f, slots(f)...)
	}
}
