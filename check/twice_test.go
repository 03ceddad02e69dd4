package check_test

import (
	"strings"
	"testing"

	"rookery/api"
)

func TestP17_1FunctionsTwice(t *testing.T) {
	for _, s := range []string{
		"main() -> 1. main() -> 1.", "main() -> 1. main() -> 2.", "main() -> 1. f() -> 1. f() -> 1.", "f() -> 1. main() -> 1. f() -> 1.", "f() -> 1. f() -> 1. main() -> 1.",
		"f(A) -> 1. main() -> 1. f(B) -> 1.", "f(A, B) -> 1. g() -> 1. f(C, D) -> 2. main() -> 1.", "f(_) -> 1. f(A) -> 1. main() -> 1.", "f(_, _) -> 1. f(A, B) -> 1. main() -> 1.",
		"main() -> 1. f() -> 1. f(A) -> 1. f(B) -> 2.", "main() -> 1. f() -> 1. f() -> 1. f() -> 1.",
	} {
		wantText(t, "a function twice", s, api.ErrCheckTwice)
	}
	for _, s := range []string{
		"main() -> 1. main(A) -> 1. main(A, B) -> 1.", "main() -> 1. f() -> 1. f(A) -> 1. f(A, B) -> 1.", "f(_) -> 1. f(_, _) -> 1. f() -> 1. main() -> 1.", "main() -> 1. f() -> 1. g() -> 1. ff() -> 1. fF() -> 1. f_() -> 1.",
		"main() -> 1. f1() -> 1. f(A) -> 1.",
	} {
		wantText(t, "functions of one name with other numbers of parameters", s, api.OK)
	}
	for n := range 9 {
		for k := range 9 {
			e := api.OK
			if n == k {
				e = api.ErrCheckTwice
			}
			one := integer(1)
			wantCheck(t, "two functions of one name", program(function("main", one), function("f", one, numbered("A", n)...), function("f", one, numbered("B", k)...)), e)
		}
	}
}

func TestP17_1ParamsTwice(t *testing.T) {
	for _, s := range []string{"A, A", "A, B, A", "_, A, A", "A, _, A", "A, B, C, D, E, F, G, A", "A, B, C, D, E, F, G, G", "_a, _a", "__, __", "A, A, A, A"} {
		wantText(t, "a parameter twice", "main() -> 1. f("+s+") -> 2.", api.ErrCheckTwice)
		wantText(t, "a parameter twice", "f("+s+") -> 2. main() -> 1.", api.ErrCheckTwice)
		wantText(t, "a parameter twice in main", "main() -> 1. main("+s+") -> 2.", api.ErrCheckTwice)
		wantText(t, "a parameter twice in a function named as a builtin", "main() -> 1. elem("+s+") -> 2.", api.ErrCheckTwice)
	}
	for _, s := range []string{"A, B", "_, _", "_, _, _, _, _, _, _, _", "_, A, _", "A, Aa, AA, A_, A1", "_, __, _a, ___"} {
		wantText(t, "no parameter twice", "main() -> 1. f("+s+") -> 2.", api.OK)
	}
	wantText(t, "one name in two functions", "main() -> 1. f(A) -> A. g(A) -> A.", api.OK)
	wantText(t, "a parameter in a pattern again", "main() -> 1. f(A) -> A = 1, {A, A} = 2, case A of A -> A end.", api.OK)
}

func TestP17_1NamedAsBuiltin(t *testing.T) {
	one := integer(1)
	known := strings.Fields(builtinRow)
	names := map[string]int{}
	for _, b := range known {
		name, _, _ := strings.Cut(b, "/")
		names[name]++
	}
	for name := range names {
		for n := range 9 {
			e := api.OK
			if strings.Contains(" "+builtinRow+" ", " "+callName(name, n)+" ") {
				e = api.ErrCheckName
			}
			f := function(name, one, numbered("A", n)...)
			wantCheck(t, "named as a builtin", program(function("main", one), f), e)
			wantCheck(t, "named as a builtin", program(f, function("main", one)), e)
			wantCheck(t, "named as a builtin, and called", program(f, function("main", call(name, repeated(one, n)...))), e)
			wantCheck(t, "named as a builtin, twice", program(f, function("main", one), f), api.ErrCheckTwice)
		}
	}
	for _, s := range []string{"selfs", "sel", "nodess", "spawn_", "aspawn", "hd1", "hD", "cX", "infinity"} {
		for n := range 4 {
			wantCheck(t, "named nearly as a builtin", program(function("main", one), function(s, one, numbered("A", n)...)), api.OK)
		}
	}
}
