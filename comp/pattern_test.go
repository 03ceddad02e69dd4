package comp_test

import (
	"slices"
	"strings"
	"testing"

	"rookery/api"
)

// wantPatterns: those of the OMatch of the text's first function, one behind the
// other.
func wantPatterns(t testing.TB, what, s string, want ...string) {
	t.Helper()
	l := compiled(t, what, s)
	if len(l) == 0 {
		return
	}
	var got []string
	for _, in := range l[0].Ins {
		if in.Op == api.OMatch {
			got = append(got, termText(in.T))
		}
	}
	if !slices.Equal(got, want) {
		t.Errorf("P19.1: %s: of %s: the patterns %q; want %q", what, brief(s), got, want)
	}
}

// inPlaces: a pattern in each place where one may stand; of a program's text the
// first function has no other pattern.
func inPlaces(p string) []string {
	return []string{
		"main() -> " + p + " = 1.", "main() -> (" + p + ") = 1, 2.", "main() -> {" + p + " = 1}.",
		"main() -> case 1 of " + p + " -> 2 end.", "main() -> case 1 of (" + p + ") -> 2 end, 3.",
		"main() -> receive " + p + " -> 2 end.", "main() -> receive " + p + " -> 2 after 1 -> 2 end.",
		"main() -> receive after " + p + " = 1 -> 2 end.", "main() -> receive after 1 -> " + p + " = 1 end.",
	}
}

func TestP19_1Patterns(t *testing.T) {
	for p, want := range map[string]string{
		"0": "0", "1": "1", "4611686018427387903": "4611686018427387903",
		"- 0": "0", "- 1": "-1", "- 4611686018427387903": "-4611686018427387903", "- (2)": "-2",
		"a": "a", "main": "main", "infinity": "infinity", "self": "self",
		`""`: `""`, `"a b"`: `"a b"`, `"\x00\xff\n"`: `"\x00\xff\n"`,
		"_": "_", "X": "V0", "_X": "V0", "(X)": "V0", "((_))": "_",
		"{}": "{}", "[]": "[]", "{a}": "{a}", "[1, - 1]": "[1,-1]", "{{}, [], {[]}}": "{{},[],{[]}}",
		"{X, {Y, [Z, _], _}, X, - 3, [a, \"b\"]}": `{V0,{V1,[V2,_],_},V0,-3,[a,"b"]}`,
		"[X, X, {X}]": "[V0,V0,{V0}]", "{_, _}": "{_,_}", "{Y, X, Y}": "{V0,V1,V0}",
	} {
		for _, s := range inPlaces(p) {
			wantPatterns(t, "a pattern", s, want)
		}
	}
}

// As many elements and as much nesting as a pattern may have: its depth is 24.
func TestP19_1GreatPatterns(t *testing.T) {
	deep := strings.Repeat("{", api.MaxDeep-1) + "X" + strings.Repeat("}", api.MaxDeep-1)
	wide := "[" + strings.Repeat("- 1, ", api.MaxWide-1) + "_]"
	for _, s := range inPlaces(deep) {
		wantPatterns(t, "a deep pattern", s, strings.ReplaceAll(deep, "X", "V0"))
	}
	for _, s := range inPlaces(wide) {
		wantPatterns(t, "a wide pattern", s, strings.ReplaceAll(wide, " ", ""))
	}
}

// B is what was bound ahead of the whole pattern, V what was not.
func TestP19_1Bound(t *testing.T) {
	for s, want := range map[string]string{
		"X = 1, X = 2":                                     "V0 B0",
		"X = 1, {X, Y, X, Y} = 2":                          "V0 {B0,V1,B0,V1}",
		"{X, X} = 1, {X, Y, Y} = 2, [Y, X, _] = 3":         "{V0,V0} {B0,V1,V1} [B1,B0,_]",
		"X = X = 1":                                        "V0 B0",
		"{X, Y} = X = 1, Y = 2":                            "V0 {B0,V1} B1",
		"X = {X = 1, X = 2}":                               "V0 B0 B0",
		"(X = 1) + (X = 2)":                                "V0 B0",
		"(X = 1) ! (X = 2), X = 3":                         "V0 B0 B0",
		"cons(X = 1, [X = 2])":                             "V0 B0",
		"g(X = 1), X = 2":                                  "V0 B0",
		"- (X = 1), X = 2":                                 "V0 B0",
		"_ = 1, _ = 2, {_, _} = 3":                         "_ _ {_,_}",
		"_X = 1, _X = 2":                                   "V0 B0",
		"case 1 of X -> X = 1 end":                         "V0 B0",
		"case 1 of X -> 1; X -> 2 end":                     "V0 V0",
		"case 1 of {X, Y} -> X = 1; {Y, X} -> Y = 1 end":   "{V0,V1} B0 {V1,V0} B1",
		"case 1 of X -> 1 end, X = 2":                      "V0 V0",
		"case 1 of 1 -> X = 1 end, X = 2":                  "1 V0 V0",
		"case 1 of 1 -> X = 1, X = 2; 2 -> X = 3 end":      "1 V0 B0 2 V0",
		"case X = 1 of X -> 1; {X, Y} -> Y = X end, X = 3": "V0 B0 {B0,V1} B1 B0",
		"case {X = 1} of {Y} -> Y = X end, {X, Y} = 3":     "V0 {V1} B1 {B0,V1}",
		"X = 1, case 1 of X -> 2; {X, Y, X} -> Y = 1 end":  "V0 B0 {B0,V1,B0} B1",
		"case case 1 of X -> 2 end of X -> 1 end":          "V0 V0",
		"case 1 of X -> case X of X -> 1; Y -> 2 end end":  "V0 B0 V1",
		"case 1 of X -> case 1 of Y -> 2 end, Y = 2 end":   "V0 V1 V1",
		"case 1 of 1 -> case 1 of X -> 2 end; X -> 3 end":  "1 V0 V0",
		"receive X -> X = 1 end":                           "V0 B0",
		"receive X -> 1; {X, X} -> X = 2 end, X = 3":       "V0 {V0,V0} B0 V0",
		"receive X -> 1 after 1 -> X = 1 end, X = 2":       "V0 V0 V0",
		"receive 1 -> X = 1 after 1 -> X = 1, X = 2 end":   "1 V0 V0 B0",
		"receive X -> 1 after X = 1 -> X = 2 end, X = 3":   "V0 B0 B0 B0",
		"receive {X, Y} -> Y = 1 after X = 1 -> Y = X end": "V0 {B0,V1} B1 V1",
		"receive after X = 1 -> X = 2 end, X = 3":          "V0 B0 B0",
		"receive after 1 -> X = 2, X = 4 end, X = 3":       "V0 B0 V0",
		"X = 1, receive X -> 2 after X = 3 -> X = 4 end":   "V0 B0 B0 B0",
		"receive after receive X -> 1 end -> X = 1 end":    "V0 V0",
		"receive after 1 -> receive X -> X = 1 end end":    "V0 B0",
		"{case 1 of X -> 1 end, X = 2, X = 3}":             "V0 V0 B0",
		"X = case 1 of X -> 2 end, X = 3":                  "V0 V0 B0",
		"{X, Y} = case Y = 1 of X -> 2 end, {Y, X} = 3":    "V1 V0 {V0,B1} {B1,B0}",
	} {
		wantPatterns(t, "bound or not", "main() -> "+s+". g(_) -> 1.", strings.Fields(want)...)
	}
	wantPatterns(t, "parameters are bound", "f(A, B, _) -> {A, C, B, _} = 1, A = C = 2, case 3 of {A, D} -> B = D end. main() -> 1.", "{B0,V3,B1,_}", "B3", "B0", "{B0,V4}", "B1")
	wantPatterns(t, "of another function nothing is bound", "main() -> X = 1. f(X) -> Y = X. g(Y) -> 1.", "V0")
	wantPatterns(t, "_ as a parameter is not bound", "f(_, _) -> _ = 1, {_, X} = 2. main() -> 1.", "_", "{_,V2}")
}

// Behind what isn't bound any more, the name's value comes from the same slot.
func TestP19_1BoundAndLoaded(t *testing.T) {
	wantCode(t, "bound anew", "main() -> case 1 of X -> X end, X = 2, X.",
		"Push 1, Match V0 else <x>, Pop, Load 0, Jump <e>, <x>:, Fail 2, <e>:, Pop, Push 2, Match V0 else <y>, Jump <f>, <y>:, Fail 1, <f>:, Pop, Load 0, Ret")
	wantCode(t, "each clause its own", "main() -> receive {X, Y} -> {Y, X}; {Y, X} -> [Y, X] after Z = 1 -> Z end.",
		"Push 1, Match V2 else <u>, Jump <v>, <u>:, Fail 1, <v>:, Timer, <y>:, Peek <z>, Match {V0,V1} else <a>, Take, Load 1, Load 0, Tuple 2, Ret, <a>:, Match {V1,V0} else <x>, Take, Load 1, Load 0, List 2, Ret, <x>:, Next, Jump <y>, <z>:, Load 2, Ret")
}
