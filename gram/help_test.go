package gram_test

import (
	"slices"
	"strconv"
	"strings"
	"testing"

	"rookery/api"
	"rookery/gram"
	"rookery/lex"
)

const maxNest = 40

func integer(n int64) api.Token { return api.Token{Kind: api.TkInt, N: n} }

func name(s string) api.Token { return api.Token{Kind: api.TkAtom, S: s} }

func variable(s string) api.Token { return api.Token{Kind: api.TkVar, S: s} }

func raw(s string) api.Token { return api.Token{Kind: api.TkBytes, B: []byte(s)} }

func sign(s string) api.Token { return api.Token{Kind: api.TkSign, S: s} }

func word(s string) api.Token { return api.Token{Kind: api.TkWord, S: s} }

func tree(kind int, s string, l ...api.Tree) api.Tree { return api.Tree{Kind: kind, S: s, L: l} }

func treeInt(n int64) api.Tree { return api.Tree{Kind: api.TInt, N: n} }

func treeBytes(s string) api.Tree { return api.Tree{Kind: api.TBytes, B: []byte(s)} }

// inBody: the program f whose body is these.
func inBody(l ...api.Tree) api.Tree {
	return tree(api.TProg, "", tree(api.TFun, "f", tree(api.TBody, "", l...)))
}

// bodied: the tokens of f whose body these are.
func bodied(l ...api.Token) []api.Token {
	return slices.Concat([]api.Token{name("f"), sign("("), sign(")"), sign("->")}, l, []api.Token{sign(".")})
}

func scan(t testing.TB, s string) []api.Token {
	t.Helper()
	l, at, e := lex.Scan(s)
	if e != api.OK {
		t.Fatalf("P15.1: Scan(%q): %d, %d", brief(s), at, e)
	}
	return l
}

// equal tells trees apart field by field; it takes an empty list for a nil one (R3).
func equal(a, b api.Tree) bool {
	return a.Kind == b.Kind && a.S == b.S && a.N == b.N && slices.Equal(a.B, b.B) && slices.EqualFunc(a.L, b.L, equal)
}

func equalToken(a, b api.Token) bool {
	return a.Kind == b.Kind && a.S == b.S && a.N == b.N && a.At == b.At && slices.Equal(a.B, b.B)
}

// show: a tree in one line: what joins stands ahead of what it joins.
func show(x api.Tree) string {
	switch x.Kind {
	case api.TInt:
		return strconv.FormatInt(x.N, 10)
	case api.TAtom, api.TVar:
		return x.S
	case api.TBytes:
		return strconv.Quote(string(x.B))
	case api.TTuple:
		return "{" + showAll(x.L) + "}"
	case api.TList:
		return "[" + showAll(x.L) + "]"
	case api.TCall:
		return x.S + "(" + showAll(x.L) + ")"
	}
	heads := map[int]string{api.TNeg: "neg", api.TBin: x.S, api.TEqual: "=", api.TSend: "!", api.TCase: "case", api.TRecv: "receive", api.TAfter: "after", api.TClause: "clause", api.TBody: "body", api.TFun: "fun " + x.S, api.TProg: "prog"}
	head, ok := heads[x.Kind]
	if !ok {
		head = "kind" + strconv.Itoa(x.Kind)
	}
	return strings.TrimSuffix("("+head+" "+showAll(x.L), " ") + ")"
}

func showAll(l []api.Tree) string {
	var out []string
	for _, x := range l {
		out = append(out, show(x))
	}
	return strings.Join(out, " ")
}

// brief: as much of a text as a message needs.
func brief(s string) string {
	if len(s) > 240 {
		return s[:180] + " .. " + s[len(s)-56:]
	}
	return s
}

// told: tokens in one line; those that Scan would not answer by their fields.
func told(l []api.Token) string {
	var out []string
	for _, x := range l[:min(len(l), 120)] {
		again, _, e := lex.Scan(lex.Spell(x))
		x.At = 0
		if e == api.OK && len(again) == 1 && equalToken(again[0], x) {
			out = append(out, lex.Spell(x))
		} else {
			out = append(out, "<"+strconv.Itoa(x.Kind)+" "+strconv.Quote(brief(x.S))+" "+strconv.FormatInt(x.N, 10)+" "+strconv.Quote(brief(string(x.B)))+">")
		}
	}
	return strconv.Itoa(len(l)) + " tokens: " + brief(strings.Join(out, " "))
}

// fields: has each part just those fields that its kind names?
func fields(x api.Tree) bool {
	bare := api.Tree{Kind: x.Kind}
	switch x.Kind {
	case api.TInt:
		bare.N = x.N
	case api.TBytes:
		bare.B = x.B
	case api.TAtom, api.TVar:
		bare.S = x.S
	case api.TBin, api.TCall, api.TFun:
		bare.S, bare.L = x.S, x.L
	default:
		bare.L = x.L
	}
	for _, p := range x.L {
		if !fields(p) {
			return false
		}
	}
	return equal(x, bare)
}

// wantTree: beside OK the number is 0.
func wantTree(t testing.TB, what string, l []api.Token, want api.Tree) {
	t.Helper()
	if got, at, e := gram.Parse(l); e != api.OK || at != 0 || !equal(got, want) || !fields(got) {
		t.Errorf("P16.1: %s: Parse of %s: %s, %d, %d; want %s, 0, 0", what, told(l), brief(show(got)), at, e, brief(show(want)))
	}
}

// wantRefused: beside the error and the token's number the tree is zero (R2).
func wantRefused(t testing.TB, what string, l []api.Token, wantAt int, wantErr api.Errno) {
	t.Helper()
	if got, at, e := gram.Parse(l); e != wantErr || at != wantAt || !equal(got, api.Tree{}) {
		t.Errorf("P16.1: %s: Parse of %s: %s, %d, %d; want the zero tree, %d, %d", what, told(l), brief(show(got)), at, e, wantAt, wantErr)
	}
}

// wantShown: the text's tree is shown so.
func wantShown(t *testing.T, what, s, want string) {
	t.Helper()
	if got, at, e := gram.Parse(scan(t, s)); e != api.OK || at != 0 || show(got) != want || !fields(got) {
		t.Errorf("P16.1: %s: Parse of %s: %s, %d, %d; want %s, 0, 0", what, brief(s), brief(show(got)), at, e, brief(want))
	}
}

// wantBody: s is shown so wherever an expression may stand.
func wantBody(t *testing.T, what, s, want string) {
	t.Helper()
	wantShown(t, what, "f() -> "+s+".", "(prog (fun f (body "+want+")))")
	wantShown(t, what, "f() -> case "+s+" of A -> B end.", "(prog (fun f (body (case "+want+" (clause A (body B))))))")
	wantShown(t, what, "f() -> a, {("+s+"), "+s+"}.", "(prog (fun f (body a {"+want+" "+want+"})))")
	wantShown(t, what, "f() -> receive A -> "+s+"; B -> "+s+" after "+s+" -> "+s+" end.", "(prog (fun f (body (receive (clause A (body "+want+")) (clause B (body "+want+")) (after "+want+" (body "+want+"))))))")
}

// wantBodyAt: of f() -> s. the token at is wrong, counted from s's first one.
func wantBodyAt(t *testing.T, what, s string, at int) {
	t.Helper()
	wantRefused(t, what, scan(t, "f() -> "+s+"."), 4+at, api.ErrGramToken)
	wantRefused(t, what, scan(t, "f() -> g("+s+")."), 6+at, api.ErrGramToken)
	wantRefused(t, what, scan(t, "f() -> receive A -> "+s+" end."), 7+at, api.ErrGramToken)
}

type wrongAt struct {
	s  string
	at int
}

func wantWrong(t *testing.T, what string, l []wrongAt) {
	t.Helper()
	for _, c := range l {
		wantRefused(t, what, scan(t, c.s), c.at, api.ErrGramToken)
	}
}
