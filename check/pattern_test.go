package check_test

import (
	"testing"

	"rookery/api"
)

// asPattern: x first in clauses and on the left of =, here and there.
func asPattern(x api.Tree) []api.Tree {
	one := integer(1)
	out := []api.Tree{
		inMain(choice(one, clause(x, one))), inMain(choice(one, clause(one, one), clause(x, one))),
		inMain(receive(clause(x, one))), inMain(receive(clause(one, one), clause(x, one), after(one, one))),
		inMain(equal(variable("P"), equal(x, one))), program(function("main", one), function("f", equal(x, one), "P")),
	}
	return append(out, places(equal(x, one))...)
}

// within: x, and tuples and lists with x in them.
func within(x api.Tree) []api.Tree {
	one := integer(1)
	list := tree(api.TList, "", x)
	return []api.Tree{x, tuple(x), list, tuple(one, x), tuple(x, one), tuple(tuple(), list), tree(api.TList, "", one, tuple(atomic("a"), tuple(one, x), one)), chain(x, 30, func(x api.Tree) api.Tree { return tuple(x) })}
}

func TestP17_1Patterns(t *testing.T) {
	for _, s := range []string{"0", "1", "4611686018427387903", "- 0", "- 1", "a", "X", "_", "_a", `""`, `"q"`, "{}", "[]", "{1}", "[a]", "{- 1, [_]}", "{X, X}", "{X, {Y, [Z, _, _, 1, a]}}", "[[[[[]]]]]", "{{}, [], - 3}"} {
		for _, x := range within(parseExpr(t, s)) {
			for _, p := range asPattern(x) {
				wantCheck(t, "a pattern", p, api.OK)
			}
		}
	}
	for n := range 257 {
		wantCheck(t, "a wide pattern", inMain(equal(tuple(repeated(integer(1), n)...), integer(1))), api.OK)
	}
}

func TestP17_1NoPatterns(t *testing.T) {
	for _, s := range []string{
		"- a", "- X", "- _", `- "q"`, "- {}", "- {1}", "- []", "- [1]", "- (1 + 2)", "- (1 - 2)", "- self()", "- (1 = 2)", "- (1 ! 2)", "- case 1 of 2 -> 3 end", "- receive after 1 -> 2 end", "- - 1", "- - - 1", "- - X",
		"1 + 2", "1 - 2", "1 == 1", "1 rem 2", "a < b", "X + 1", "self()", "hd(1)", "cx(1, 2)", "(1 = 2)", "(X = 2)", "({} = {})", "(1 ! 2)", "(X ! Y)",
		"case 1 of 2 -> 3 end", "receive 1 -> 2 end", "receive after 1 -> 2 end",
	} {
		for _, x := range within(parseExpr(t, s)) {
			for _, p := range asPattern(x) {
				wantCheck(t, "no pattern", p, api.ErrCheckPattern)
			}
		}
	}
}

// No pattern is told where one that is right stands ahead of it or behind it,
// or around it, and where what is wrong lies in a body.
func TestP17_1NoPatternAnywhere(t *testing.T) {
	wantBodies(t, "no pattern", api.ErrCheckPattern,
		"1 + 2 = 3", "X = 1 + 2 = 3", "X = 1, 1 + 2 = 3", "1 + 2 = 3, X = 1", "{X = 1} = 2", "{X, Y + 1} = 2", "(X = Y) = 1", "X + (1 + 2 = 3)", "1 ! self() = 2", "{1, f()} = 2",
		"case 1 of - X -> 1 end", "case 1 of X -> 1; (X = 1) -> 2 end", "case 1 of (X = 1) -> 2; X -> 1 end", "case 1 + 2 = 3 of X -> X end", "case 1 of X -> 1 + X = 2 end", "case 1 of X -> case 2 of - - 1 -> 3 end end",
		"receive (1 + 2) -> 3 end", "receive X -> 1 + 2 = X end", "receive after 1 + 2 = 3 -> 4 end", "receive after 1 -> 1 + 2 = 3 end", "receive {1, [- {}]} -> 3 after 1 -> 2 end", "receive X -> 1; self() -> 3 end",
	)
	wantBodies(t, "expressions need be no patterns", api.OK,
		"X = 1 + 2", "X = Y = 1 + 2, X + Y", "X = - - 1", "case 1 + 2 of X -> - X end", "case self() of X -> X ! X end", "receive after 1 + 2 -> 3 end", "receive X -> - - X end", "X = case 1 of 2 -> 3 end",
	)
}
