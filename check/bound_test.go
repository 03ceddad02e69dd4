package check_test

import (
	"testing"

	"rookery/api"
)

func TestP17_1Bound(t *testing.T) {
	wantBodies(t, "bound", api.OK,
		"X = 1, X", "X = 1, X = 2", "X = 1, X = X", "X = 1, Y = X, Y, X", "{X, Y} = {1, 2}, X + Y", "[X, {Y, [Z]}] = 1, {X, Y, Z}", "X = Y = 1, {X, Y}", "X = (Y = 1) + Y, X, Y", "(X = 1) + X", "{X = 1, X}", "[X = 1, X]", "(X = 1) ! X", "hd(X = 1), X", "cx(X = 1, X)", "- (X = 1) + X", "X = - 1, - X",
		"{1, {2, X = 3}}, X", "(X = 1) == X", "(X = 1) rem X", "X = 1, Y = 2, Z = X + Y, {X, Y, Z}", "_a = 1, _a", "__ = 1, __", "_ = 1, 2", "{_, X, _} = 1, X", "X = 1, {X, Y} = 2, Y",
	)
	wantBodies(t, "not bound", api.ErrCheckVar,
		"X", "1, X", "X, X = 1", "X = X", "X = Y", "X = 1, Y", "X + (X = 1)", "{X, X = 1}", "[X, X = 1]", "X ! (X = 1)", "cx(X, X = 1)", "X == (X = 1)", "- X", "X = - X", "{X}", "[X]", "[[{X}]]", "hd(X)", "X + 1", "1 + X", "X ! 1", "1 ! X", "x = X", "{X, Y} = {1, X}", "X = {X}", "(X = Y) ! (Y = 1)", "X = Y, Y = 1", "x, X", "Xx = 1, X", "X = 1, Xx", "_x = 1, x_, X",
	)
}

// The right of an = is done ahead of its left.
func TestP17_1RightFirst(t *testing.T) {
	wantBodies(t, "the right ahead of the left", api.OK, "X = (Y = 1) + 2, Y", "{X, Y} = {Y = 1, 2}, X", "X = (X = 1), X", "X = X = 1", "{X, X} = X = 1", "X = Y = Z = 1, {X, Y, Z}", "X = {Y = 1, Y}")
	wantBodies(t, "the right ahead of the left", api.ErrCheckVar, "X = X + 1", "X = {1, X}", "X = (Y = X)", "X = Y = X", "{X, Y} = X", "X = (1 ! X)", "X = case X of 1 -> 2 end", "X = case 1 of 1 -> X end", "X = receive after X -> 1 end")
}

func TestP17_1Underscore(t *testing.T) {
	wantBodies(t, "_ as an expression", api.ErrCheckVar,
		"_", "1, _", "_ = 1, _", "_ = _", "X = _", "{_}", "[_]", "{1, [_]} = {1, [_]}", "- _", "_ + 1", "1 + _", "_ ! 1", "1 ! _", "hd(_)", "case _ of 1 -> 2 end", "case 1 of _ -> _ end", "receive _ -> _ end", "receive after _ -> 1 end", "receive after 1 -> _ end", "X = _ = _",
	)
	for _, p := range places(variable("_")) {
		wantCheck(t, "_ as an expression", p, api.ErrCheckVar)
	}
	wantText(t, "_ as a parameter is not bound", "main() -> 1. f(_) -> _.", api.ErrCheckVar)
	wantText(t, "_ as a parameter", "main() -> 1. f(_) -> 1.", api.OK)
	wantBodies(t, "_ in patterns", api.OK, "_ = 1", "{_, _, [_]} = 1", "case 1 of _ -> 2; {_, _} -> 3 end", "receive _ -> 1 end", "_ = _ = 1")
}

func TestP17_1Cases(t *testing.T) {
	wantBodies(t, "bound", api.OK,
		"case 1 of Y -> Y end", "case 1 of {Y, Z} -> Y + Z; [Y] -> Y end", "case 1 of Y -> Z = Y, Z end", "case 1 of X -> 1; Y -> Y end", "X = 1, case X of Y -> {X, Y} end, X", "X = 1, case 2 of X -> X end, X", "case X = 1 of X -> X end, X", "case X = 1 of Y -> X; Z -> X end, X", "case {X = 1, X} of 1 -> X end, X", "X = case 1 of Y -> Y end, X", "case 1 of X -> X = 2, X end", "case 1 of Y -> 1 end, Y = 2, Y",
		"case 1 of X -> case 2 of Y -> {X, Y} end, X end", "case 1 of X -> X; Y -> Y end, X = 1, X", "case case X = 1 of 2 -> X end of 3 -> X end, X", "Y = 2, case 1 of {Y, X} -> X end, Y", "case 1 of X -> 1 end + (X = 1), X",
		"case 1 of 2 -> case X = 1 of 3 -> X end, X end", "case 1 of X -> 2 end, case 2 of X -> X end",
	)
	wantBodies(t, "not bound", api.ErrCheckVar,
		"case X of X -> 1 end", "case 1 of Y -> Y end, Y", "case 1 of Y -> 1; Z -> Y end", "case 1 of Y -> Z; Z -> 1 end", "case 1 of Y -> 1 end, Y", "case 1 of 2 -> X = 1 end, X", "case 1 of 2 -> X = 1; 3 -> X end", "case 1 of 2 -> X end, X = 1", "case 1 of 2 -> X, X = 1 end", "case 1 of {X, Y} -> 1; [X] -> Y end", "{case 1 of X -> X end, X}", "case 1 of X -> X end + X", "X = case 1 of Y -> Y end, Y", "case case 1 of X -> X end of 2 -> X end",
		"case 1 of X -> case 2 of Y -> 3 end, Y end", "case 1 of X -> case 2 of Y -> 3 end end, Y", "case X of 1 -> 2 end", "case 1 of 2 -> case X = 1 of 3 -> X end end, X", "case X of 1 -> X = 1 end", "case 1 of 1 -> X = 1; 2 -> X = 2 end, X", "case {X, X = 1} of 1 -> 2 end",
	)
}

func TestP17_1Receives(t *testing.T) {
	wantBodies(t, "bound", api.OK,
		"receive X -> X end", "receive {X, Y} -> X, Y; X -> X end", "receive after X = 1 -> X end, X", "receive after X = 1 -> Y = X end, X", "receive Y -> X after X = 1 -> X end, X", "receive X -> X after X = 1 -> X end, X", "receive Y -> {X, Y}; Z -> {X, Z} after X = 1 -> X end, X", "X = 1, receive X -> X after X -> X end, X", "receive X -> 1 after 2 -> 3 end, X = 1, X", "receive after {X = 1, X} -> 2 end, X", "receive after 1 -> X = 1, X end", "receive 1 -> receive 2 -> X after X = 3 -> 4 end, X end", "receive after receive after X = 1 -> X end -> X end, X",
		"receive X -> 1 end, receive X -> X end", "{receive after X = 1 -> 2 end, X}", "receive X -> X after 1 -> X = 2, X end",
	)
	wantBodies(t, "not bound", api.ErrCheckVar,
		"receive X -> X end, X", "receive X -> 1; Y -> X end", "receive X -> Y; Y -> 1 end", "receive X -> 1 after X -> 2 end", "receive X -> 1 after 2 -> X end", "receive 1 -> X = 1 after 2 -> X end", "receive 1 -> X = 1 after X -> 2 end", "receive 1 -> X = 1 end, X", "receive after 1 -> Y = 2 end, Y", "receive 1 -> Y after 1 -> Y = 2 end", "receive after X -> 1 end", "receive after 1 -> X end", "receive after X -> X = 1 end", "receive Y -> X after 1 -> X = 2 end", "receive after {X, X = 1} -> 2 end", "X + receive after X = 1 -> 2 end", "{X, receive after X = 1 -> 2 end}",
		"receive 1 -> receive 2 -> 3 after X = 4 -> 5 end after 6 -> X end", "receive 1 -> receive 2 -> 3 after X = 4 -> 5 end end, X", "receive after receive X -> X end -> X end", "receive X -> 1 after 2 -> 3 end, X", "receive after receive after 1 -> X = 2 end -> X end",
	)
}

func TestP17_1Params(t *testing.T) {
	for s, e := range map[string]api.Errno{
		"f(A) -> A.": api.OK, "f(A, B) -> A + B.": api.OK, "f(A, _, B) -> {A, B}.": api.OK, "f(A) -> A = 1, A.": api.OK, "f(A) -> case A of A -> A end, A.": api.OK, "f(A) -> receive A -> A after A -> A end.": api.OK, "f(A) -> {A, B} = A, B.": api.OK, "f(_) -> 1.": api.OK, "f(A, B, C, D, E, F, G, H) -> {A, B, C, D, E, F, G, H}.": api.OK,
		"f(A) -> B.": api.ErrCheckVar, "f(A) -> A, B.": api.ErrCheckVar, "f(A, _) -> _.": api.ErrCheckVar, "f(A) -> A. g() -> A.": api.ErrCheckVar, "f(A) -> A. g(B) -> A.": api.ErrCheckVar, "g() -> A. f(A) -> A.": api.ErrCheckVar, "g() -> A = 1, A. f() -> A.": api.ErrCheckVar, "f() -> A. g() -> A = 1, A.": api.ErrCheckVar, "g() -> case 1 of A -> A end. f() -> A.": api.ErrCheckVar, "g() -> X. f() -> 1.": api.ErrCheckVar, "g() -> 1. f() -> X.": api.ErrCheckVar,
	} {
		wantText(t, "parameters", "main() -> 1. "+s, e)
		wantText(t, "parameters", s+" main() -> 1.", e)
	}
	wantText(t, "a name that main binds", "main() -> A = 1, A. f() -> A.", api.ErrCheckVar)
	wantText(t, "a name that main binds", "f() -> A. main() -> A = 1, A.", api.ErrCheckVar)
}

// Whatever kind a part is: what its first part binds is bound in its second one,
// not the other way round.
func TestP17_1LeftToRight(t *testing.T) {
	bind, use, one := equal(variable("X"), integer(1)), variable("X"), integer(1)
	for what, two := range map[string]func(a, b api.Tree) api.Tree{
		"a sum": func(a, b api.Tree) api.Tree { return tree(api.TBin, "+", a, b) }, "a comparison": func(a, b api.Tree) api.Tree { return tree(api.TBin, "<", a, b) }, "a !": func(a, b api.Tree) api.Tree { return tree(api.TSend, "", a, b) }, "a tuple": func(a, b api.Tree) api.Tree { return tuple(a, b) }, "a list": func(a, b api.Tree) api.Tree { return tree(api.TList, "", one, a, one, b) }, "a call": func(a, b api.Tree) api.Tree { return call("cx", a, b) }, "a call of a function": func(a, b api.Tree) api.Tree { return call("main2", a, one, b) },
		"a case": func(a, b api.Tree) api.Tree { return choice(a, clause(one, b)) }, "a case, a later clause": func(a, b api.Tree) api.Tree { return choice(a, clause(one, one), clause(one, one, b)) }, "an after": func(a, b api.Tree) api.Tree { return receive(after(a, b)) }, "an after, a clause": func(a, b api.Tree) api.Tree { return receive(clause(one, b), after(a, one)) }, "an after, a later clause": func(a, b api.Tree) api.Tree { return receive(clause(one, one), clause(one, b), after(a, one)) },
		"a body": func(a, b api.Tree) api.Tree { return receive(after(one, a, b)) }, "nested": func(a, b api.Tree) api.Tree {
			return tuple(tree(api.TNeg, "", tree(api.TList, "", a)), call("hd", tree(api.TNeg, "", b)))
		},
	} {
		for _, p := range []api.Tree{inMain(two(bind, use)), inMain(two(tuple(bind), tuple(use))), inMain(two(bind, bind)), inMain(bind, two(use, use)), inMain(two(one, bind))} {
			wantCheck(t, what+": bound", withThird(p), api.OK)
		}
		for _, p := range []api.Tree{inMain(two(use, bind)), inMain(two(one, use)), inMain(two(use, one)), inMain(two(use, one), bind), inMain(two(one, use), bind)} {
			wantCheck(t, what+": not bound", withThird(p), api.ErrCheckVar)
		}
	}
}

// withThird: p with a function main2 that takes three.
func withThird(p api.Tree) api.Tree {
	return program(append(p.L, function("main2", integer(1), "A", "B", "C"))...)
}

// What is bound behind a part of each kind by what stands within it.
func TestP17_1Behind(t *testing.T) {
	bind, use, one := equal(variable("X"), integer(1)), variable("X"), integer(1)
	for _, x := range []api.Tree{
		bind, tuple(bind), tree(api.TList, "", one, bind), tree(api.TNeg, "", bind), tree(api.TBin, "*", bind, one), tree(api.TBin, "*", one, bind), tree(api.TSend, "", bind, one), tree(api.TSend, "", one, bind), call("hd", bind), equal(one, bind), equal(variable("X"), one), equal(tuple(one, tree(api.TList, "", variable("X"))), one),
		choice(bind, clause(one, one)), choice(tuple(bind), clause(one, one), clause(one, one)), receive(after(bind, one)), receive(clause(one, one), after(call("tl", bind), one)),
	} {
		wantCheck(t, "bound behind", inMain(x, use), api.OK)
		wantCheck(t, "bound behind, in one tuple", inMain(tuple(x, use)), api.OK)
		wantCheck(t, "bound behind in a clause alone", inMain(choice(one, clause(one, x, use))), api.OK)
		wantCheck(t, "not bound behind the clause", inMain(choice(one, clause(one, x)), use), api.ErrCheckVar)
		wantCheck(t, "not bound in another clause", inMain(receive(clause(one, x), clause(one, use))), api.ErrCheckVar)
		wantCheck(t, "not bound ahead", inMain(use, x), api.ErrCheckVar)
	}
	for _, x := range []api.Tree{
		choice(one, clause(variable("X"), one)), choice(one, clause(one, bind)), choice(one, clause(one, one), clause(variable("X"), bind)), receive(clause(variable("X"), one)), receive(clause(one, bind)), receive(after(one, bind)), receive(clause(variable("X"), one), after(one, bind)),
	} {
		wantCheck(t, "not bound behind", inMain(x, use), api.ErrCheckVar)
		wantCheck(t, "not bound behind, in one tuple", inMain(tuple(x, use)), api.ErrCheckVar)
		wantCheck(t, "not bound behind, in an =", inMain(equal(variable("Y"), x), use), api.ErrCheckVar)
		wantCheck(t, "bound otherwise", inMain(x, bind, use), api.OK)
	}
}
