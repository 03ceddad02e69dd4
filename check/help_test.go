package check_test

import (
	"slices"
	"strconv"
	"strings"
	"testing"

	"rookery/api"
	"rookery/check"
	"rookery/gram"
	"rookery/lex"
)

func tree(kind int, s string, l ...api.Tree) api.Tree { return api.Tree{Kind: kind, S: s, L: l} }

func integer(n int64) api.Tree { return api.Tree{Kind: api.TInt, N: n} }

func atomic(s string) api.Tree { return tree(api.TAtom, s) }

func variable(s string) api.Tree { return tree(api.TVar, s) }

func raw(n int) api.Tree { return api.Tree{Kind: api.TBytes, B: make([]byte, n)} }

func tuple(l ...api.Tree) api.Tree { return tree(api.TTuple, "", l...) }

func equal(left, right api.Tree) api.Tree { return tree(api.TEqual, "", left, right) }

func call(name string, l ...api.Tree) api.Tree { return tree(api.TCall, name, l...) }

func body(l ...api.Tree) api.Tree { return tree(api.TBody, "", l...) }

func clause(p api.Tree, l ...api.Tree) api.Tree { return tree(api.TClause, "", p, body(l...)) }

func after(x api.Tree, l ...api.Tree) api.Tree { return tree(api.TAfter, "", x, body(l...)) }

func receive(l ...api.Tree) api.Tree { return tree(api.TRecv, "", l...) }

// choice: a case whose expression is x.
func choice(x api.Tree, l ...api.Tree) api.Tree {
	return tree(api.TCase, "", append([]api.Tree{x}, l...)...)
}

// function: f with these parameters, whose body is x alone.
func function(name string, x api.Tree, params ...string) api.Tree {
	f := tree(api.TFun, name)
	for _, p := range params {
		f.L = append(f.L, variable(p))
	}
	f.L = append(f.L, body(x))
	return f
}

func program(l ...api.Tree) api.Tree { return tree(api.TProg, "", l...) }

// inMain: the program main whose body is these.
func inMain(l ...api.Tree) api.Tree { return program(tree(api.TFun, "main", body(l...))) }

// repeated: the same part so many times.
func repeated(x api.Tree, n int) []api.Tree { return slices.Repeat([]api.Tree{x}, n) }

// numbered: so many names that begin with head, none of them twice.
func numbered(head string, n int) []string {
	var out []string
	for i := range n {
		out = append(out, head+strconv.Itoa(i))
	}
	return out
}

func variables(names ...string) []api.Tree {
	var out []api.Tree
	for _, s := range names {
		out = append(out, variable(s))
	}
	return out
}

func parse(t testing.TB, s string) api.Tree {
	t.Helper()
	l, at, e := lex.Scan(s)
	if e != api.OK {
		t.Fatalf("P15.1: Scan(%q): %d, %d", brief(s), at, e)
	}
	x, at, e := gram.Parse(l)
	if e != api.OK {
		t.Fatalf("P16.1: Parse of %s: %d, %d", brief(s), at, e)
	}
	return x
}

// parseExpr: the tree of an expression.
func parseExpr(t testing.TB, s string) api.Tree {
	t.Helper()
	return parse(t, "f() -> "+s+".").L[0].L[0].L[0]
}

// same tells trees apart field by field; it takes an empty list for a nil one (R3).
func same(a, b api.Tree) bool {
	return a.Kind == b.Kind && a.S == b.S && a.N == b.N && slices.Equal(a.B, b.B) && slices.EqualFunc(a.L, b.L, same)
}

// copied: x in memory of its own.
func copied(x api.Tree) api.Tree {
	x.S = strings.Clone(x.S)
	x.B = slices.Clone(x.B)
	l := make([]api.Tree, len(x.L))
	for i := range x.L {
		l[i] = copied(x.L[i])
	}
	x.L = l
	return x
}

// all: every part of x, itself the first.
func all(x *api.Tree) []*api.Tree {
	out := []*api.Tree{x}
	for i := range x.L {
		out = append(out, all(&x.L[i])...)
	}
	return out
}

// brief: as much of a text as a message needs.
func brief(s string) string {
	if len(s) > 400 {
		return s[:300] + " .. " + s[len(s)-90:]
	}
	return s
}

// show: a tree in one line, each part by its kind's letter and its fields.
func show(x api.Tree) string {
	var out strings.Builder
	showTo(&out, x)
	return brief(out.String())
}

func showTo(out *strings.Builder, x api.Tree) {
	if out.Len() > 3000 {
		return
	}
	if x.Kind < 1 || x.Kind > 18 {
		out.WriteString("kind" + strconv.Itoa(x.Kind))
	} else {
		out.WriteString(strings.Fields("int atom var bytes tuple list neg bin = ! call case recv after clause body fun prog")[x.Kind-1])
	}
	if x.S != "" {
		out.WriteString(":" + brief(x.S))
	}
	if x.N != 0 {
		out.WriteString(":" + strconv.FormatInt(x.N, 10))
	}
	if len(x.B) > 0 {
		out.WriteString(":" + strconv.Itoa(len(x.B)) + " bytes")
	}
	if len(x.L) == 0 {
		return
	}
	out.WriteString("(")
	for i, p := range x.L {
		if i > 0 {
			out.WriteString(" ")
		}
		showTo(out, p)
	}
	out.WriteString(")")
}

// wantCheck: e is what the test says, and what the chapter's words, worked out
// apart, come to.
func wantCheck(t testing.TB, what string, x api.Tree, e api.Errno) {
	t.Helper()
	if got := check.Check(x); got != e {
		t.Errorf("P17.1: %s: Check of %s: %d; want %d", what, show(x), got, e)
	}
	if got := asked(x); got != e {
		t.Errorf("P17.1: %s: worked out apart of %s: %d; want %d", what, show(x), got, e)
	}
}

// wantText: the same of a program's text.
func wantText(t testing.TB, what, s string, e api.Errno) {
	t.Helper()
	x := parse(t, s)
	if got := check.Check(x); got != e {
		t.Errorf("P17.1: %s: Check of %s: %d; want %d", what, brief(s), got, e)
	}
	if got := asked(x); got != e {
		t.Errorf("P17.1: %s: worked out apart of %s: %d; want %d", what, brief(s), got, e)
	}
}

// wantBodies: the same of each of these as main's body.
func wantBodies(t testing.TB, what string, e api.Errno, bodies ...string) {
	t.Helper()
	for _, s := range bodies {
		wantText(t, what, "main() -> "+s+".", e)
	}
}

// places: x where an expression may stand, each time in a program that is right
// but for it. (A name that x binds is bound nowhere ahead of it.)
func places(x api.Tree) []api.Tree {
	one := integer(1)
	out := []api.Tree{inMain(x), inMain(one, x), inMain(x, one)}
	for _, p := range []api.Tree{
		tuple(x), tuple(one, x, one), tree(api.TList, "", x), tree(api.TList, "", one, tuple(x)), tree(api.TNeg, "", x),
		tree(api.TBin, "+", x, one), tree(api.TBin, "rem", one, x), equal(one, x), equal(variable("Q"), x),
		tree(api.TSend, "", x, one), tree(api.TSend, "", one, x), call("hd", x), call("cx", one, x),
		choice(x, clause(one, one)), choice(one, clause(one, x)), choice(one, clause(one, one), clause(one, one, x)),
		receive(clause(one, x)), receive(clause(one, one), clause(one, x)), receive(after(x, one)), receive(after(one, x)),
		receive(clause(one, one), after(x, one)), receive(clause(one, one), after(one, one, x)),
	} {
		out = append(out, inMain(p))
	}
	main := function("main", one)
	return append(out, program(main, function("f", x)), program(function("f", x, "P1", "P2"), main))
}

// wantEverywhere: e, wherever x stands.
func wantEverywhere(t testing.TB, what string, x api.Tree, e api.Errno) {
	t.Helper()
	for _, p := range places(x) {
		wantCheck(t, what, p, e)
	}
}
