package comp_test

import (
	"fmt"
	"strings"
	"testing"

	"rookery/api"
)

// wantHeads: name/Arity(Slots) of each function, in the text's order.
func wantHeads(t testing.TB, what, s, want string) {
	t.Helper()
	var got []string
	for _, f := range compiled(t, what, s) {
		got = append(got, headText(f))
	}
	if strings.Join(got, " ") != want {
		t.Errorf("P19.1: %s: of %s: %q; want %s", what, brief(s), got, want)
	}
}

func TestP19_1Heads(t *testing.T) {
	wantHeads(t, "one function", "main() -> 1.", "main/0(0)")
	wantHeads(t, "in the text's order", "z() -> 1. b(X) -> X. main() -> 1. a(X, Y) -> 1. b() -> 2. b(X, Y, Z) -> Z = Z.", "z/0(0) b/1(1) main/0(0) a/2(2) b/0(0) b/3(3)")
	wantHeads(t, "_ among the parameters", "f(_) -> 1. f(_, _) -> 1. f(A, _, B, _) -> X = A, B. main() -> _ = 1.", "f/1(1) f/2(2) f/4(5) main/0(0)")
	wantHeads(t, "names in patterns alone", "main() -> {A, [B, _]} = 1, case 2 of {C, D} -> 3; {C, E} -> 4 end.", "main/0(5)")
	wantHeads(t, "a parameter in a pattern", "f(A, B) -> {B, A} = 1. main() -> 1.", "f/2(2) main/0(0)")
	wantHeads(t, "slots are the function's own", "f(X) -> Y = X. g(Y) -> Y. main() -> X = 1, Z = X.", "f/1(2) g/1(1) main/0(2)")
	wantHeads(t, "eight parameters", "f(A, B, C, D, E, F, G, H) -> I = 1. main() -> 1.", "f/8(9) main/0(0)")
	wantHeads(t, "eight _", "f(_, _, _, _, _, _, _, _) -> I = 1, {J, _} = 2. main() -> 1.", "f/8(10) main/0(0)")
}

// A function's i-th parameter has the slot i, _ too.
func TestP19_1ParameterSlots(t *testing.T) {
	wantCode(t, "parameters", "f(C, A, B) -> {A, B, C}. main() -> 1.", "Load 1, Load 2, Load 0, Tuple 3, Ret")
	wantCode(t, "_ ahead", "f(_, A) -> A. main() -> 1.", "Load 1, Ret")
	wantCode(t, "two _", "f(_, A, _, B) -> {B, A}. main() -> 1.", "Load 3, Load 1, Tuple 2, Ret")
	wantCode(t, "_ alone", "f(_) -> X = 2, X. main() -> 1.", "Push 2, Match V1 else <x>, Jump <e>, <x>:, Fail 1, <e>:, Pop, Load 1, Ret")
	wantCode(t, "_ behind", "f(A, _) -> X = A, X. main() -> 1.", "Load 0, Match V2 else <x>, Jump <e>, <x>:, Fail 1, <e>:, Pop, Load 2, Ret")
	for n := range 9 {
		for i := range n {
			params := numbered("P", n)
			text := "f(" + strings.Join(params, ", ") + ") -> " + params[i] + ". main() -> 1."
			wantCode(t, "a parameter", text, fmt.Sprintf("Load %d, Ret", i))
			for k := range params {
				if k != i {
					params[k] = "_"
				}
			}
			text = "f(" + strings.Join(params, ", ") + ") -> " + params[i] + ", Q = " + params[i] + ". main() -> 1."
			wantCode(t, "a parameter among _", text, fmt.Sprintf("Load %d, Pop, Load %d, Match V%d else <x>, Jump <e>, <x>:, Fail 1, <e>:, Ret", i, i, n))
		}
	}
}

// Other names have the next slots, in the order of the tree's parts, not in that
// in which they are done.
func TestP19_1NamesSlots(t *testing.T) {
	wantPatterns(t, "the left ahead of the right", "main() -> A = B = 1.", "V1", "V0")
	wantPatterns(t, "the left ahead of the right, within", "main() -> {X, A} = {B = C = 1, D = 2}.", "V3", "V2", "V4", "{V0,V1}")
	wantPatterns(t, "clauses ahead of the TAfter", "main() -> receive A -> B = 1 after C = 2 -> D = 3 end.", "V2", "V0", "V1", "V3")
	wantPatterns(t, "in the order of their coming", "main() -> Z = 1, A = 2, M = 3, A = Z.", "V0", "V1", "V2", "B1")
	wantPatterns(t, "parameters aside", "f(B, D) -> {A, B, C, D, E} = 1. main() -> 1.", "{V2,B0,V3,B1,V4}")
	wantPatterns(t, "_ has none", "main() -> {_, A, _, B} = 1, _ = 2, C = 3.", "{_,V0,_,V1}", "_", "V2")
	wantPatterns(t, "the case's expression ahead of its clauses", "main() -> case {B = 1} of {A, B} -> C = 1 end, {D, C} = 2.", "V0", "{V1,B0}", "V2", "{V3,V2}")
	wantPatterns(t, "names of two clauses that are alike", "main() -> case 1 of {A, B} -> C = A; {C, A} -> B = C end, A = 1.", "{V0,V1}", "V2", "{V2,V0}", "V1", "V0")
	wantCode(t, "a name in two clauses has one slot", "main() -> case 1 of {A} -> A; [B, A] -> A; A -> {A} end.",
		"Push 1, Match {V0} else <a>, Pop, Load 0, Ret, <a>:, Match [V1,V0] else <b>, Pop, Load 0, Ret, <b>:, Match V0 else <x>, Pop, Load 0, Tuple 1, Ret, <x>:, Fail 2")
	wantCode(t, "names like one another", "main() -> Aa = 1, A = 2, AA = 3, A_ = 4, _A = 5, {_A, A_, AA, A, Aa}.",
		"Push 1, Match V0 else 3, Jump 4, Fail 1, Pop, Push 2, Match V1 else 8, Jump 9, Fail 1, Pop, Push 3, Match V2 else 13, Jump 14, Fail 1, Pop, Push 4, Match V3 else 18, Jump 19, Fail 1, Pop, Push 5, Match V4 else 23, Jump 24, Fail 1, Pop, Load 4, Load 3, Load 2, Load 1, Load 0, Tuple 5, Ret")
	wantCode(t, "names that look like slots", "main() -> {V1, B0, V0} = 1, {B0, V0, V1}.", "Push 1, Match {V0,V1,V2} else 3, Jump 4, Fail 1, Pop, Load 1, Load 2, Load 0, Tuple 3, Ret")
}

// 64 names and 8 parameters that are _: slots from 0 to 71.
func TestP19_1AllSlots(t *testing.T) {
	names := numbered("N", api.MaxSlots)
	var want []string
	for i := range names {
		want = append(want, fmt.Sprint("V", i+8))
	}
	text := "f(_, _, _, _, _, _, _, _) -> {" + strings.Join(names, ", ") + "} = 1, N63. main() -> 1."
	wantCode(t, "72 slots", text, "Push 1, Match {"+strings.Join(want, ",")+"} else 3, Jump 4, Fail 1, Pop, Load 71, Ret")
	wantHeads(t, "72 slots", text, "f/8(72) main/0(0)")
	wantSource(t, "65 names", strings.Replace(text, "= 1", "= {N64} = 1", 1), 0, api.ErrCheckMany)
	text = "main() -> " + strings.Join(names, " = 1, ") + " = 1, {" + strings.Join(names, ", ") + "} = 2."
	wantHeads(t, "64 slots", text, "main/0(64)")
	want = nil
	for i := range names {
		want = append(want, fmt.Sprint("V", i))
	}
	wantPatterns(t, "64 slots", text, append(want, "{"+strings.ReplaceAll(strings.Join(want, ","), "V", "B")+"}")...)
}
