package comp_test

import (
	"fmt"
	"math"
	"regexp"
	"slices"
	"strings"
	"testing"

	"rookery/api"
	"rookery/code"
	"rookery/comp"
	"rookery/gram"
	"rookery/lex"
)

func tree(kind int, s string, l ...api.Tree) api.Tree { return api.Tree{Kind: kind, S: s, L: l} }

func integer(n int64) api.Tree { return api.Tree{Kind: api.TInt, N: n} }

func atomic(s string) api.Tree { return tree(api.TAtom, s) }

func variable(s string) api.Tree { return tree(api.TVar, s) }

func raw(n int) api.Tree { return api.Tree{Kind: api.TBytes, B: slices.Repeat([]byte("r"), n)} }

func tuple(l ...api.Tree) api.Tree { return tree(api.TTuple, "", l...) }

func list(l ...api.Tree) api.Tree { return tree(api.TList, "", l...) }

func neg(x api.Tree) api.Tree { return tree(api.TNeg, "", x) }

func plus(a, b api.Tree) api.Tree { return tree(api.TBin, "+", a, b) }

func equal(left, right api.Tree) api.Tree { return tree(api.TEqual, "", left, right) }

func call(name string, l ...api.Tree) api.Tree { return tree(api.TCall, name, l...) }

func body(l ...api.Tree) api.Tree { return tree(api.TBody, "", l...) }

func clause(p api.Tree, l ...api.Tree) api.Tree { return tree(api.TClause, "", p, body(l...)) }

func after(x api.Tree, l ...api.Tree) api.Tree { return tree(api.TAfter, "", x, body(l...)) }

func receive(l ...api.Tree) api.Tree { return tree(api.TRecv, "", l...) }

// choice: a case whose expression is x.
func choice(x api.Tree, l ...api.Tree) api.Tree {
	return tree(api.TCase, "", append([]api.Tree{x}, l...)...)
}

// function: with these parameters, whose body is x alone.
func function(name string, x api.Tree, params ...string) api.Tree {
	f := tree(api.TFun, name)
	for _, p := range params {
		f.L = append(f.L, variable(p))
	}
	f.L = append(f.L, body(x))
	return f
}

func program(l ...api.Tree) api.Tree { return tree(api.TProg, "", l...) }

// inMain: the program main whose body is these.
func inMain(l ...api.Tree) api.Tree { return program(tree(api.TFun, "main", body(l...))) }

func repeated(x api.Tree, n int) []api.Tree { return slices.Repeat([]api.Tree{x}, n) }

// numbered: so many names that begin with head, none of them twice.
func numbered(head string, n int) []string {
	var out []string
	for i := range n {
		out = append(out, fmt.Sprint(head, i))
	}
	return out
}

func parse(t testing.TB, s string) api.Tree {
	t.Helper()
	l, at, e := lex.Scan(s)
	if e != api.OK {
		t.Fatalf("P15.1: Scan(%q): %d, %d", brief(s), at, e)
	}
	x, at, e := gram.Parse(l)
	if e != api.OK {
		t.Fatalf("P16.1: Parse of %s: %d, %d", brief(s), at, e)
	}
	return x
}

// same tells trees apart field by field; it takes an empty list for a nil one (R3).
func same(a, b api.Tree) bool {
	return a.Kind == b.Kind && a.S == b.S && a.N == b.N && slices.Equal(a.B, b.B) && slices.EqualFunc(a.L, b.L, same)
}

// copied: x in memory of its own.
func copied(x api.Tree) api.Tree {
	x.S = strings.Clone(x.S)
	x.B = slices.Clone(x.B)
	l := make([]api.Tree, len(x.L))
	for i := range x.L {
		l[i] = copied(x.L[i])
	}
	x.L = l
	return x
}

// all: every part of x, itself the first.
func all(x *api.Tree) []*api.Tree {
	out := []*api.Tree{x}
	for i := range x.L {
		out = append(out, all(&x.L[i])...)
	}
	return out
}

// brief: as much of a text as a message needs.
func brief(s string) string {
	if len(s) > 700 {
		return s[:500] + " .. " + s[len(s)-190:]
	}
	return s
}

// show: a tree in one line, each part by its kind and its fields.
func show(x api.Tree) string {
	var out strings.Builder
	showTo(&out, x)
	return brief(out.String())
}

func showTo(out *strings.Builder, x api.Tree) {
	if out.Len() > 3000 {
		return
	}
	fmt.Fprint(out, kindName(x.Kind))
	if x.S != "" {
		out.WriteString(":" + brief(x.S))
	}
	if x.N != 0 {
		fmt.Fprint(out, ":", x.N)
	}
	if len(x.B) > 0 {
		fmt.Fprint(out, ":", len(x.B), " bytes")
	}
	if len(x.L) == 0 {
		return
	}
	out.WriteString("(")
	for i, p := range x.L {
		if i > 0 {
			out.WriteString(" ")
		}
		showTo(out, p)
	}
	out.WriteString(")")
}

var kindNames = strings.Fields("int atom var bytes tuple list neg bin equal send call case recv after clause body fun prog")

func kindName(kind int) string {
	if kind < 1 || kind > len(kindNames) {
		return fmt.Sprint("kind", kind)
	}
	return kindNames[kind-1]
}

// sameTerm tells terms apart field by field; an empty list is a nil one (R3).
func sameTerm(a, b api.Term) bool {
	return a.Kind == b.Kind && a.N == b.N && bits(a.Z) == bits(b.Z) && a.S == b.S && a.Id == b.Id &&
		slices.Equal(a.B, b.B) && slices.EqualFunc(a.L, b.L, sameTerm)
}

func bits(z complex128) [2]uint64 {
	return [2]uint64{math.Float64bits(real(z)), math.Float64bits(imag(z))}
}

func sameIns(a, b api.Ins) bool {
	return a.Op == b.Op && a.A == b.A && a.B == b.B && sameTerm(a.T, b.T)
}

func sameFun(a, b api.Fun) bool {
	return a.Name == b.Name && a.Arity == b.Arity && a.Slots == b.Slots && slices.EqualFunc(a.Ins, b.Ins, sameIns)
}

func sameFuns(a, b []api.Fun) bool { return slices.EqualFunc(a, b, sameFun) }

var (
	atomForm = regexp.MustCompile(`^[a-z][a-zA-Z0-9_]{0,31}$`)
	slotForm = regexp.MustCompile(`^[VB](0|[1-9][0-9]*)$`)
)

// termText: a term, or a pattern of slots; "odd", if a field is wrong.
func termText(x api.Term) string {
	bare := x
	out := "odd"
	switch x.Kind {
	case api.KInt:
		bare.N = 0
		out = fmt.Sprint(x.N)
	case api.KAtom:
		if bare.S = ""; atomForm.MatchString(x.S) {
			out = x.S
		}
	case api.KBytes:
		bare.B = nil
		out = fmt.Sprintf("%q", x.B)
	case api.KTuple:
		bare.L = nil
		out = "{" + termTexts(x.L) + "}"
	case api.KList:
		bare.L = nil
		out = "[" + termTexts(x.L) + "]"
	case api.KVar:
		if bare.S = ""; slotForm.MatchString(x.S) {
			out = x.S
		}
	case api.KAny:
		out = "_"
	}
	if bare.Kind = 0; !sameTerm(bare, api.Term{}) {
		return "odd"
	}
	return out
}

func termTexts(l []api.Term) string {
	var out []string
	for _, x := range l {
		out = append(out, termText(x))
	}
	return strings.Join(out, ",")
}

// opFields: the Ops' names, from 1 on, each with what is told behind it.
var opFields = strings.Fields("Push:T Load:A Pop: Tuple:A List:A Bin:A Neg: Match:TA Jump:A Call:AB Tail:AB Ret: Bif:A Send: Fail:A Timer: Peek:A Next: Take:")

// opName: without its O.
func opName(op int) (name, fields string) {
	name, fields, _ = strings.Cut(opFields[op-1], ":")
	return name, fields
}

// insText: an instruction; a field that its Op does not name is told as odd, if
// it is not zero.
func insText(in api.Ins) string {
	if in.Op < 1 || in.Op > len(opFields) {
		return fmt.Sprint("Op ", in.Op)
	}
	out, fields := opName(in.Op)
	bare := in
	switch fields {
	case "T":
		out += " " + termText(in.T)
		bare.T = api.Term{}
	case "TA":
		out += " " + termText(in.T) + " else " + fmt.Sprint(in.A)
		bare.T, bare.A = api.Term{}, 0
	case "A":
		out += " " + fmt.Sprint(in.A)
		bare.A = 0
	case "AB":
		out += fmt.Sprintf(" %d/%d", in.A, in.B)
		bare.A, bare.B = 0, 0
	}
	if bare.A != 0 || bare.B != 0 || !sameTerm(bare.T, api.Term{}) {
		out += " with odd fields"
	}
	return out
}

// insTexts: all of them, as the tests write them.
func insTexts(l []api.Ins) string {
	var out []string
	for _, in := range l {
		out = append(out, insText(in))
	}
	return strings.Join(out, ", ")
}

// headText: a function's name, Arity and Slots.
func headText(f api.Fun) string { return fmt.Sprintf("%s/%d(%d)", f.Name, f.Arity, f.Slots) }

func showFuns(l []api.Fun) string {
	var out []string
	for _, f := range l {
		out = append(out, headText(f)+": "+insTexts(f.Ins))
	}
	return brief(strings.Join(out, "; "))
}

// placed: a code in which places are written <x>: and used as <x>, with the
// numbers of the instructions that they stand for.
func placed(s string) string {
	var out []string
	at := map[string]string{}
	for _, item := range strings.Split(s, ", ") {
		if name, ok := strings.CutSuffix(item, ">:"); ok {
			at[name+">"] = fmt.Sprint(len(out))
		} else if item != "" {
			out = append(out, item)
		}
	}
	return regexp.MustCompile(`<[^>]*>`).ReplaceAllStringFunc(strings.Join(out, ", "), func(name string) string {
		n, ok := at[name]
		if !ok {
			panic("no place " + name + " in " + s)
		}
		return n
	})
}

// wantFuns: l is the answer for x, and what is worked out apart; and code finds
// it right.
func wantFuns(t testing.TB, what, of string, x api.Tree, l []api.Fun) {
	t.Helper()
	if want := asked(x); !sameFuns(l, want) {
		t.Errorf("P19.1: %s: of %s: %s; worked out apart: %s", what, brief(of), showFuns(l), showFuns(want))
	}
	if f, i, e := code.Check(l); f != 0 || i != 0 || e != api.OK {
		t.Errorf("P19.1: %s: of %s: %s: code.Check: %d, %d, %d", what, brief(of), showFuns(l), f, i, e)
	}
}

// compiled: the functions of a right text, by both calls, which are those that
// are worked out apart.
func compiled(t testing.TB, what, s string) []api.Fun {
	t.Helper()
	x := parse(t, s)
	l, at, e := comp.Source(s)
	if at != 0 || e != api.OK {
		t.Errorf("P19.1: %s: Source of %s: %d, %d; want 0, 0", what, brief(s), at, e)
		return nil
	}
	if got, e := comp.Compile(x); e != api.OK || !sameFuns(got, l) {
		t.Errorf("P19.1: %s: of %s: Compile: %s, %d; Source: %s", what, brief(s), showFuns(got), e, showFuns(l))
	}
	wantFuns(t, what, s, x, l)
	return l
}

// wantCode: the code of the text's functions, one behind the other; those behind
// the last one that is told may be any.
func wantCode(t testing.TB, what, s string, want ...string) {
	t.Helper()
	l := compiled(t, what, s)
	if len(l) < len(want) {
		t.Errorf("P19.1: %s: of %s: %d functions; want %d", what, brief(s), len(l), len(want))
		return
	}
	for i, w := range want {
		if got := insTexts(l[i].Ins); got != placed(w) {
			t.Errorf("P19.1: %s: of %s: function %d:\n%s\nwant\n%s", what, brief(s), i, brief(got), brief(placed(w)))
		}
	}
}

// wantTree: Compile's error of a tree; with OK the functions are looked at too.
func wantTree(t testing.TB, what string, x api.Tree, e api.Errno) {
	t.Helper()
	l, got := comp.Compile(x)
	if got != e {
		t.Errorf("P19.1: %s: Compile of %s: %d; want %d", what, show(x), got, e)
	}
	if got != api.OK && len(l) != 0 {
		t.Errorf("R2: %s: Compile of %s: %s beside %d", what, show(x), showFuns(l), got)
	}
	if got == api.OK {
		wantFuns(t, what, show(x), x, l)
	}
}

// wantSource: Source's place and error of a text.
func wantSource(t testing.TB, what, s string, at int, e api.Errno) {
	t.Helper()
	l, gotAt, got := comp.Source(s)
	if gotAt != at || got != e {
		t.Errorf("P19.1: %s: Source(%q): %d, %d; want %d, %d", what, brief(s), gotAt, got, at, e)
	}
	if got != api.OK && len(l) != 0 {
		t.Errorf("R2: %s: Source(%q): %s beside %d", what, brief(s), showFuns(l), got)
	}
}
