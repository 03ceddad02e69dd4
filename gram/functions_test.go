package gram_test

import (
	"strings"
	"testing"

	"rookery/api"
)

func TestP16_1Examples(t *testing.T) {
	wantShown(t, "an example", "f() -> 1 - 2 - 3.", "(prog (fun f (body (- (- 1 2) 3))))")
	wantShown(t, "an example", "f() -> A = B ! C.", "(prog (fun f (body (= A (! B C)))))")
	wantShown(t, "an example", "f() -> -1.", "(prog (fun f (body (neg 1))))")
	wantRefused(t, "an example", scan(t, "f() -> ."), 4, api.ErrGramToken)
	one := inBody(tree(api.TBin, "-", tree(api.TBin, "-", treeInt(1), treeInt(2)), treeInt(3)))
	wantTree(t, "an example", scan(t, "f() -> 1 - 2 - 3."), one)
}

func TestP16_1NoTokens(t *testing.T) {
	wantTree(t, "no tokens", nil, tree(api.TProg, ""))
	wantTree(t, "no tokens", []api.Token{}, tree(api.TProg, ""))
	wantTree(t, "no tokens, but room", make([]api.Token, 0, 9), tree(api.TProg, ""))
	wantTree(t, "a note alone", scan(t, "% nothing"), tree(api.TProg, ""))
}

func TestP16_1Functions(t *testing.T) {
	wantShown(t, "one", "f() -> a.", "(prog (fun f (body a)))")
	wantShown(t, "two", "f() -> a. g() -> b.", "(prog (fun f (body a)) (fun g (body b)))")
	wantShown(t, "two of one name", "f() -> a. f() -> a.", "(prog (fun f (body a)) (fun f (body a)))")
	wantShown(t, "three", "f() -> a. g(X) -> b, c. h(X, Y) -> X.", "(prog (fun f (body a)) (fun g X (body b c)) (fun h X Y (body X)))")
	wantShown(t, "parameters", "f(X, _, X, _, Long_Name1) -> a.", "(prog (fun f X _ X _ Long_Name1 (body a)))")
	wantShown(t, "nine parameters", "f(A, B, C, D, E, F, G, H, I) -> a.", "(prog (fun f A B C D E F G H I (body a)))")
	wantShown(t, "a blank ahead of the bracket", "f ( X )->a.", "(prog (fun f X (body a)))")
	many := tree(api.TProg, "")
	for range 650 {
		many.L = append(many.L, inBody(treeInt(1)).L...)
	}
	wantTree(t, "very many", scan(t, strings.Repeat("f() -> 1. ", 650)), many)
	var params []string
	for range 1500 {
		params = append(params, "X")
	}
	wantShown(t, "very many parameters", "f("+strings.Join(params, ",")+") -> a.", "(prog (fun f "+strings.Join(params, " ")+" (body a)))")
}

// Where a function's name, its brackets, its parameters, its -> or its . are wrong.
func TestP16_1FunctionsWrong(t *testing.T) {
	for _, head := range []string{"F", "_", "1", `"f"`, "case", "of", "end", "receive", "after", "rem", "(", ")", "->", ".", ",", ";", "-", "=", "[", "{"} {
		wantWrong(t, "no name", []wrongAt{{head, 0}, {head + "() -> 1.", 0}, {"f() -> 1. " + head + "() -> 1.", 6}})
	}
	wantWrong(t, "cut off", []wrongAt{
		{"f", 1}, {"f(", 2}, {"f(X", 3}, {"f(X,", 4}, {"f(X, Y", 5}, {"f()", 3}, {"f(X)", 4}, {"f() ->", 4}, {"f() -> 1", 5}, {"f() -> 1,", 6}, {"f() -> 1, 2", 7}, {"f() -> 1. g", 7}, {"f() -> 1. g(", 8}, {"f() -> 1. g()", 9}, {"f() -> 1. g() -> 2", 11},
	})
	wantWrong(t, "the brackets", []wrongAt{
		{"f -> 1.", 1}, {"f) -> 1.", 1}, {"f( -> 1.", 2}, {"f(X -> 1.", 3}, {"f(() -> 1.", 2}, {"f()) -> 1.", 3}, {"f{} -> 1.", 1}, {"f[] -> 1.", 1}, {"f(} -> 1.", 2}, {"f()() -> 1.", 3}, {"f . () -> 1.", 1},
	})
	wantWrong(t, "the parameters", []wrongAt{
		{"f(1) -> 1.", 2}, {"f(a) -> 1.", 2}, {`f("x") -> 1.`, 2}, {"f({X}) -> 1.", 2}, {"f([X]) -> 1.", 2}, {"f((X)) -> 1.", 2}, {"f(-X) -> 1.", 2}, {"f(end) -> 1.", 2}, {"f(,) -> 1.", 2}, {"f(,X) -> 1.", 2}, {"f(X,) -> 1.", 4}, {"f(X,,Y) -> 1.", 4}, {"f(X Y) -> 1.", 3}, {"f(X;Y) -> 1.", 3}, {"f(X, 1) -> 1.", 4}, {"f(X, y) -> 1.", 4}, {"f(X = 1) -> 1.", 3}, {"f(X + Y) -> 1.", 3}, {"f(X, Y, a()) -> 1.", 6}, {"f(X(Y)) -> 1.", 3},
	})
	wantWrong(t, "the ->", []wrongAt{
		{"f() 1.", 3}, {"f() = 1.", 3}, {"f() - > 1.", 3}, {"f() -> -> 1.", 4}, {"f() .", 3}, {"f() , 1.", 3}, {"f(X) X.", 4}, {"f(X) > X.", 4}, {"f(X) -> -> X.", 5},
	})
	wantWrong(t, "the .", []wrongAt{
		{"f() -> 1 g() -> 2.", 5}, {"f() -> 1; g() -> 2.", 5}, {"f() -> 1.. g() -> 2.", 6}, {"f() -> 1, . g() -> 2.", 6}, {"f() -> 1 end.", 5}, {"f() -> 1).", 5}, {"f() -> 1 2.", 5}, {"f() -> g() -> 2.", 7}, {"f() -> 1 -> 2.", 5},
	})
	wantWrong(t, "behind the last .", []wrongAt{
		{"f() -> 1. 2", 6}, {"f() -> 1. .", 6}, {"f() -> 1. X", 6}, {"f() -> 1. end", 6}, {"f() -> 1. ->", 6}, {"f() -> 1. (", 6}, {`f() -> 1. "x"`, 6}, {"f() -> 1. g() -> 2. 3", 12}, {"f() -> 1. , g() -> 2.", 6}, {"f() -> 1. ; g() -> 2.", 6},
	})
	wantWrong(t, "an expression alone", []wrongAt{{"1.", 0}, {"a.", 1}, {"a().", 3}, {"X = 1.", 0}, {"{a}.", 0}})
}

func TestP16_1Bodies(t *testing.T) {
	wantShown(t, "one", "f() -> 1.", "(prog (fun f (body 1)))")
	wantShown(t, "two", "f() -> 1, a.", "(prog (fun f (body 1 a)))")
	wantShown(t, "several", "f() -> X = 1, X ! a, b, {}, X.", "(prog (fun f (body (= X 1) (! X a) b {} X)))")
	wantShown(t, "bodies in a body", "f() -> case 1 of 2 -> 3, 4; 5 -> 6, 7 end, 8.", "(prog (fun f (body (case 1 (clause 2 (body 3 4)) (clause 5 (body 6 7))) 8)))")
	wantWrong(t, "empty or with commas too many", []wrongAt{{"f() -> .", 4}, {"f() -> , .", 4}, {"f() -> ,1.", 4}, {"f() -> 1,.", 6}, {"f() -> 1,,2.", 6}, {"f() -> 1 2.", 5}, {"f() -> 1;2.", 5}, {"f() -> 1, 2 3.", 7}, {"f() -> (1, 2).", 6}, {"f() -> ;.", 4}})
	var ones []string
	for range 1990 {
		ones = append(ones, "1")
	}
	wantShown(t, "very many", "f() -> "+strings.Join(ones, ",")+".", "(prog (fun f (body "+strings.Join(ones, " ")+")))")
}

// Each kind of tree, with its fields written out.
func TestP16_1Fields(t *testing.T) {
	body := func(l ...api.Tree) api.Tree { return api.Tree{Kind: 16, L: l} }
	for s, want := range map[string]api.Tree{
		"12":                            {Kind: 1, N: 12},
		"0":                             {Kind: 1},
		"4611686018427387903":           {Kind: 1, N: api.MaxInt},
		"a":                             {Kind: 2, S: "a"},
		"X":                             {Kind: 3, S: "X"},
		"_":                             {Kind: 3, S: "_"},
		`"q\x00"`:                       {Kind: 4, B: []byte("q\x00")},
		`""`:                            {Kind: 4},
		"{}":                            {Kind: 5},
		"{1, a}":                        {Kind: 5, L: []api.Tree{{Kind: 1, N: 1}, {Kind: 2, S: "a"}}},
		"[]":                            {Kind: 6},
		"[X]":                           {Kind: 6, L: []api.Tree{{Kind: 3, S: "X"}}},
		"- 3":                           {Kind: 7, L: []api.Tree{{Kind: 1, N: 3}}},
		"1 rem a":                       {Kind: 8, S: "rem", L: []api.Tree{{Kind: 1, N: 1}, {Kind: 2, S: "a"}}},
		"1 =< a":                        {Kind: 8, S: "=<", L: []api.Tree{{Kind: 1, N: 1}, {Kind: 2, S: "a"}}},
		"X = a":                         {Kind: 9, L: []api.Tree{{Kind: 3, S: "X"}, {Kind: 2, S: "a"}}},
		"X ! a":                         {Kind: 10, L: []api.Tree{{Kind: 3, S: "X"}, {Kind: 2, S: "a"}}},
		"g()":                           {Kind: 11, S: "g"},
		"g(X, a)":                       {Kind: 11, S: "g", L: []api.Tree{{Kind: 3, S: "X"}, {Kind: 2, S: "a"}}},
		"case X of a -> b; c -> d end":  {Kind: 12, L: []api.Tree{{Kind: 3, S: "X"}, {Kind: 15, L: []api.Tree{{Kind: 2, S: "a"}, body(api.Tree{Kind: 2, S: "b"})}}, {Kind: 15, L: []api.Tree{{Kind: 2, S: "c"}, body(api.Tree{Kind: 2, S: "d"})}}}},
		"receive a -> b end":            {Kind: 13, L: []api.Tree{{Kind: 15, L: []api.Tree{{Kind: 2, S: "a"}, body(api.Tree{Kind: 2, S: "b"})}}}},
		"receive after 1 -> 2, 3 end":   {Kind: 13, L: []api.Tree{{Kind: 14, L: []api.Tree{{Kind: 1, N: 1}, body(api.Tree{Kind: 1, N: 2}, api.Tree{Kind: 1, N: 3})}}}},
		"receive a -> b after 1->2 end": {Kind: 13, L: []api.Tree{{Kind: 15, L: []api.Tree{{Kind: 2, S: "a"}, body(api.Tree{Kind: 2, S: "b"})}}, {Kind: 14, L: []api.Tree{{Kind: 1, N: 1}, body(api.Tree{Kind: 1, N: 2})}}}},
		"(a)":                           {Kind: 2, S: "a"},
	} {
		fun := api.Tree{Kind: 17, S: "f", L: []api.Tree{{Kind: 3, S: "P"}, {Kind: 3, S: "Q"}, body(want)}}
		wantTree(t, "fields", scan(t, "f(P, Q) -> "+s+"."), api.Tree{Kind: 18, L: []api.Tree{fun}})
	}
}
