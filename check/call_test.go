package check_test

import (
	"strings"
	"testing"

	"rookery/api"
)

func TestP17_1CallsOfBuiltins(t *testing.T) {
	one := integer(1)
	for _, b := range strings.Fields(builtinRow) {
		name, _, _ := strings.Cut(b, "/")
		for n := range 9 {
			e := api.ErrCheckCall
			if strings.Contains(" "+builtinRow+" ", " "+callName(name, n)+" ") {
				e = api.OK
			}
			wantEverywhere(t, "a call of a builtin", call(name, repeated(one, n)...), e)
			if e != api.OK {
				f := function(name, one, numbered("A", n)...)
				wantCheck(t, "a call of a function named as a builtin", program(function("main", call(name, repeated(one, n)...)), f), api.OK)
			}
		}
	}
}

func TestP17_1CallsOfFunctions(t *testing.T) {
	one := integer(1)
	for n := range 9 {
		f := function("f", one, numbered("A", n)...)
		for k := range 9 {
			e := api.ErrCheckCall
			if n == k {
				e = api.OK
			}
			main := function("main", call("f", repeated(one, k)...))
			wantCheck(t, "a call of a function that stands later", program(main, f), e)
			wantCheck(t, "a call of a function that stands ahead", program(f, main), e)
			self := function("f", call("f", repeated(one, k)...), numbered("A", n)...)
			wantCheck(t, "a call of itself", program(function("main", one), self), e)
		}
	}
	for s, e := range map[string]api.Errno{
		"main() -> main().": api.OK, "main() -> f(). f() -> g(). g() -> main().": api.OK, "main() -> f(f(f(1))). f(A) -> A.": api.OK, "main() -> f(1, 2). f(A) -> 1. f(A, B) -> 1.": api.OK, "main() -> f(main(), main()). f(_, _) -> 1.": api.OK,
		"main() -> f().": api.ErrCheckCall, "main() -> f(1). f() -> 1.": api.ErrCheckCall, "main() -> f(). f(A) -> 1.": api.ErrCheckCall, "main() -> main(1).": api.ErrCheckCall, "main() -> f(g()). f(A) -> A.": api.ErrCheckCall, "main() -> g(f()). f() -> 1.": api.ErrCheckCall, "main() -> ff(). f() -> 1.": api.ErrCheckCall, "main() -> f(). ff() -> 1.": api.ErrCheckCall, "main() -> 1. f() -> g().": api.ErrCheckCall, "main() -> f(1, 2). f(A) -> 1. f(A, B, C) -> 1.": api.ErrCheckCall, "main() -> f(main(), 1). f(_) -> 1.": api.ErrCheckCall, "f() -> g(). main() -> 1.": api.ErrCheckCall,
	} {
		wantText(t, "calls", s, e)
	}
	wantEverywhere(t, "a call of nobody", call("nobody"), api.ErrCheckCall)
	wantEverywhere(t, "a call of nobody", call("nobody", one, one), api.ErrCheckCall)
	wantEverywhere(t, "a call within a call", call("hd", call("nobody")), api.ErrCheckCall)
	wantBodies(t, "an atom is no call", api.OK, "f", "spawn(f, [])", "spawn(2, f, [])")
}

func TestP17_1Main(t *testing.T) {
	for s, e := range map[string]api.Errno{
		"main() -> 1.": api.OK, "main() -> 1. f() -> 2.": api.OK, "f() -> 1. main() -> 2.": api.OK, "main(A) -> 1. main() -> 2.": api.OK, "f() -> 1. g() -> 2. main() -> 3.": api.OK,
		"": api.ErrCheckMain, "f() -> 1.": api.ErrCheckMain, "main(A) -> 1.": api.ErrCheckMain, "main(_) -> 1. f() -> 1.": api.ErrCheckMain, "main(A) -> 1. main(A, B) -> 2.": api.ErrCheckMain, "mainn() -> 1.": api.ErrCheckMain, "mai() -> 1.": api.ErrCheckMain, "mAIN() -> 1.": api.ErrCheckMain, "f() -> main.": api.ErrCheckMain,
		"f() -> main().": api.ErrCheckCall, "main() -> 1. main() -> 1.": api.ErrCheckTwice, "main(A, A) -> 1.": api.ErrCheckTwice,
	} {
		wantText(t, "main", s, e)
	}
	for _, x := range []api.Tree{program(), {Kind: api.TProg, L: []api.Tree{}}, {Kind: api.TProg, B: []byte{}}} {
		wantCheck(t, "no function", x, api.ErrCheckMain)
	}
	for n := 1; n < 9; n++ {
		wantCheck(t, "main with parameters", program(function("main", integer(1), numbered("A", n)...)), api.ErrCheckMain)
	}
}

func TestP17_1Examples(t *testing.T) {
	for s, e := range map[string]api.Errno{
		"main() -> X.": api.ErrCheckVar, "main() -> X = 1, X = 2.": api.OK, "main() -> case 1 of Y -> Y end, Y.": api.ErrCheckVar, "main() -> f().": api.ErrCheckCall, "main() -> 1 + 2 = 3.": api.ErrCheckPattern,
	} {
		wantText(t, "an example", s, e)
	}
}

// Ordinary programs, those of DOC.md among them.
func TestP17_1Ordinary(t *testing.T) {
	for _, s := range []string{
		"main() -> say(1 + 2).",
		"main() -> P = spawn(2, f, []), P ! hi. f() -> receive X -> say(X) end.",
		"main() -> spawn(2, f, []). f() -> 1.",
		"main() -> claim(a, self()).",
		"main() -> say(cx(1, 2) * cx(3, - 1)).",
		"main() -> loop(0). loop(N) -> receive {add, K, From} -> From ! N + K, loop(N + K) end.",
		"main() -> P = spawn(server, [0]), R = ref(), P ! {get, self(), R}, receive {R, V} -> say(V) after 10 -> exit(timeout) end. server(N) -> receive {get, From, Ref} -> From ! {Ref, N}, server(N + 1); stop -> exit(normal) end.",
		"main() -> say(fact(20)). fact(N) -> case N of 0 -> 1; _ -> N * fact(N - 1) end.",
		"main() -> say(sum([1, 2, 3], 0)). sum(L, S) -> case L of [] -> S; _ -> sum(tl(L), S + hd(L)) end.",
		"main() -> trap(true), M = monitor(whereis(x)), receive {down, M, _, Why} -> say({Why, M}) after 100 -> demonitor(M) end.",
		"main() -> [N, K] = [node(), len(nodes())], register(me, self()), {N, K, near(), elem(1, {a}), cons(1, []), conj(1), find(a), unlink(self()), link(self()), exit(self(), kill)}.",
	} {
		wantText(t, "an ordinary program", s, api.OK)
	}
}
