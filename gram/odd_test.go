package gram_test

import (
	"math"
	"slices"
	"strings"
	"testing"

	"rookery/api"
)

// Tokens count as they are, whether Scan would answer them or not.

// wantLeaf: the token is that tree wherever it may stand alone.
func wantLeaf(t *testing.T, what string, x api.Token, want api.Tree) {
	t.Helper()
	wantTree(t, what, bodied(x), inBody(want))
	wantTree(t, what, bodied(sign("{"), x, sign(","), x, sign("}")), inBody(tree(api.TTuple, "", want, want)))
	wantTree(t, what, bodied(sign("-"), x, sign("+"), x), inBody(tree(api.TBin, "+", tree(api.TNeg, "", want), want)))
}

func TestP16_1OddInts(t *testing.T) {
	for _, n := range []int64{0, 1, -1, api.MaxInt, api.MaxInt + 1, api.MinInt, api.MinInt - 1, math.MaxInt64, math.MinInt64} {
		wantLeaf(t, "an int", integer(n), treeInt(n))
		wantLeaf(t, "an int with other fields", api.Token{Kind: api.TkInt, N: n, S: "(", B: []byte("b"), At: -3}, treeInt(n))
	}
}

func oddTexts() []string {
	return []string{"", "a", "A", "X", "_", "1", " ", "a b", "case", "end", "rem", "(", ")", "->", ".", "-", "é", "\xff", "\x00", strings.Repeat("n", 33), strings.Repeat("n", 1<<18)}
}

func TestP16_1OddNames(t *testing.T) {
	for _, s := range oddTexts() {
		wantLeaf(t, "an atom", name(s), tree(api.TAtom, s))
		wantLeaf(t, "a variable", variable(s), tree(api.TVar, s))
		wantLeaf(t, "an atom with other fields", api.Token{Kind: api.TkAtom, S: s, N: 7, B: []byte("b"), At: 9}, tree(api.TAtom, s))
		wantLeaf(t, "a variable with other fields", api.Token{Kind: api.TkVar, S: s, N: 7, B: []byte("b"), At: 9}, tree(api.TVar, s))
		wantTree(t, "a call", bodied(name(s), sign("("), variable(s), sign(")")), inBody(tree(api.TCall, s, tree(api.TVar, s))))
		fun := tree(api.TFun, s, tree(api.TVar, s), tree(api.TVar, "P"), tree(api.TBody, "", treeInt(1)))
		l := []api.Token{name(s), sign("("), variable(s), sign(","), variable("P"), sign(")"), sign("->"), integer(1), sign(".")}
		wantTree(t, "a function", slices.Concat(l, l), tree(api.TProg, "", fun, fun))
	}
}

func TestP16_1OddBytes(t *testing.T) {
	for _, s := range append(oddTexts(), strings.Repeat("\x00\xff", 1<<16)) {
		wantLeaf(t, "bytes", raw(s), treeBytes(s))
		wantLeaf(t, "bytes with other fields", api.Token{Kind: api.TkBytes, B: []byte(s), S: ")", N: -7, At: 1 << 40}, treeBytes(s))
	}
	wantLeaf(t, "no bytes", api.Token{Kind: api.TkBytes}, treeBytes(""))
}

// touched: l, each token changed by f.
func touched(l []api.Token, f func(*api.Token)) []api.Token {
	out := slices.Clone(l)
	for i := range out {
		f(&out[i])
	}
	return out
}

// At never counts; N and B don't of a name, a sign or a word.
func TestP16_1FieldsThatDoNotCount(t *testing.T) {
	r := readGrammar()
	for _, s := range programs() {
		l := scan(t, s)
		want := splitProg(l)
		for _, at := range []int{0, 1, -1, math.MaxInt, math.MinInt} {
			wantTree(t, "At", touched(l, func(x *api.Token) { x.At = at }), want)
		}
		wantTree(t, "N", touched(l, func(x *api.Token) {
			if x.Kind != api.TkInt {
				x.N = -5
			}
		}), want)
		wantTree(t, "B", touched(l, func(x *api.Token) {
			if x.Kind != api.TkBytes {
				x.B = []byte("b")
			}
		}), want)
		wantTree(t, "S", touched(l, func(x *api.Token) {
			if x.Kind == api.TkInt || x.Kind == api.TkBytes {
				x.S = "->"
			}
		}), want)
		for i := range len(l) {
			cut := touched(l[:i], func(x *api.Token) { x.At, x.N = 7*i, int64(i) })
			r.wantAsked(t, "cut off, with other fields", cut)
		}
	}
}

// Of a sign and a word S counts, whichever of both it is.
func TestP16_1SignsAsWords(t *testing.T) {
	for _, s := range programs() {
		l := scan(t, s)
		want := splitProg(l)
		wantTree(t, "signs as words", touched(l, func(x *api.Token) {
			if x.Kind == api.TkSign {
				x.Kind = api.TkWord
			}
		}), want)
		wantTree(t, "words as signs", touched(l, func(x *api.Token) {
			if x.Kind == api.TkWord {
				x.Kind = api.TkSign
			}
		}), want)
	}
}

// No other kind counts as anything, whatever its fields are.
func TestP16_1OddKinds(t *testing.T) {
	kinds := []int{0, 7, -1, 8, -6, 256 + api.TkSign, 1<<32 + api.TkAtom, 1<<32 + api.TkInt, math.MaxInt, math.MinInt}
	for _, s := range programs() {
		l := scan(t, s)
		for i := range l {
			for _, kind := range kinds {
				spoilt := slices.Clone(l)
				spoilt[i].Kind = kind
				wantRefused(t, "a token of no kind", spoilt, i, api.ErrGramToken)
				wantRefused(t, "a token of no kind ahead", slices.Concat(l[:i], spoilt[i:i+1], l[i:]), i, api.ErrGramToken)
			}
		}
		for _, kind := range kinds {
			wantRefused(t, "a token of no kind at the end", append(slices.Clone(l), api.Token{Kind: kind, S: "f"}), len(l), api.ErrGramToken)
		}
	}
}

// A sign or a word of another S counts as nothing; an atom, a variable, an int or
// bytes count as no sign and no word.
func TestP16_1OddSigns(t *testing.T) {
	r := readGrammar()
	texts := []string{"", " ", "  ", "a", "X", "f", "1", "int", "atom", "var", "bytes", "when", "Case", "CASE", "cas", "cases", "endd", "==  /=", "== /=", "+ -", "* /", "* / rem", "/ rem", "- ", " -", "--", "((", "( ", "()", "{}", "[]", "->>", "- >", "<=", "=>", "!=", "===", "..", ",,", ";;", ":", "?", "|", "%", "\n", "\x00", "\xff", "\"", strings.Repeat("(", 1<<16)}
	for _, s := range programs() {
		l := scan(t, s)
		for i, x := range l {
			for _, kind := range []int{api.TkSign, api.TkWord} {
				for _, other := range texts {
					odd := api.Token{Kind: kind, S: other}
					wantRefused(t, "a sign or word of another S", slices.Concat(l[:i], []api.Token{odd}, l[i+1:]), i, api.ErrGramToken)
					wantRefused(t, "a sign or word of another S put in", slices.Concat(l[:i], []api.Token{odd}, l[i:]), i, api.ErrGramToken)
				}
			}
			for _, kind := range []int{api.TkInt, api.TkAtom, api.TkVar, api.TkBytes} {
				odd := x
				odd.Kind = kind
				r.wantAsked(t, "another kind", slices.Concat(l[:i], []api.Token{odd}, l[i+1:]))
			}
		}
	}
	for _, s := range append(words(), allSigns()...) {
		wantTree(t, "an atom of a sign's S", bodied(name(s), sign("+"), name(s)), inBody(tree(api.TBin, "+", tree(api.TAtom, s), tree(api.TAtom, s))))
		wantRefused(t, "an atom between two", bodied(integer(1), name(s), integer(2)), 5, api.ErrGramToken)
		wantRefused(t, "a variable between two", bodied(integer(1), variable(s), integer(2)), 5, api.ErrGramToken)
	}
}
