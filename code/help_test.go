package code_test

import (
	"fmt"
	"slices"
	"strings"
	"testing"

	"rookery/api"
	"rookery/code"
	"rookery/term"
)

// op: an instruction, its A and B as they are handed in.
func op(kind int, fields ...int) api.Ins {
	fields = append(fields, 0, 0)
	return api.Ins{Op: kind, A: fields[0], B: fields[1]}
}

func push(t api.Term) api.Ins { return api.Ins{Op: api.OPush, T: t} }

func fit(p api.Term, a int) api.Ins { return api.Ins{Op: api.OMatch, A: a, T: p} }

func one() api.Ins { return push(term.Int(1)) }

func ones(n int) []api.Ins { return slices.Repeat([]api.Ins{one()}, n) }

func pops(n int) []api.Ins { return slices.Repeat([]api.Ins{op(api.OPop)}, n) }

func ret() api.Ins { return op(api.ORet) }

func variable(s string) api.Term { return api.Term{Kind: api.KVar, S: s} }

func anything() api.Term { return api.Term{Kind: api.KAny} }

// row: instructions one behind the other; what is handed in is one or a list.
func row(parts ...any) []api.Ins {
	var out []api.Ins
	for _, p := range parts {
		switch p := p.(type) {
		case api.Ins:
			out = append(out, p)
		case []api.Ins:
			out = append(out, p...)
		default:
			panic("row: no instruction")
		}
	}
	return out
}

// fun: f without parameters, with two slots.
func fun(parts ...any) api.Fun { return api.Fun{Name: "f", Slots: 2, Ins: row(parts...)} }

// named: a right function of that name that answers 1.
func named(name string, arity int) api.Fun {
	return api.Fun{Name: name, Arity: arity, Slots: arity, Ins: row(one(), ret())}
}

func funs(l ...api.Fun) []api.Fun { return l }

// numbered: so many right functions, none of which has the name of another one.
func numbered(n int) []api.Fun {
	var out []api.Fun
	for i := range n {
		out = append(out, named(fmt.Sprintf("g%d", i), i%9))
	}
	return out
}

// copied: l in memory of its own.
func copied(l []api.Fun) []api.Fun {
	out := slices.Clone(l)
	for i := range out {
		out[i].Name = strings.Clone(l[i].Name)
		out[i].Ins = slices.Clone(l[i].Ins)
		for j := range out[i].Ins {
			out[i].Ins[j].T = copiedTerm(l[i].Ins[j].T)
		}
	}
	return out
}

func copiedTerm(t api.Term) api.Term {
	t.S = strings.Clone(t.S)
	t.B = slices.Clone(t.B)
	l := make([]api.Term, len(t.L))
	for i := range t.L {
		l[i] = copiedTerm(t.L[i])
	}
	t.L = l
	return t
}

// sameTerm tells terms apart field by field; an empty list is a nil one (R3).
func sameTerm(a, b api.Term) bool {
	return a.Kind == b.Kind && a.N == b.N && fmt.Sprint(a.Z) == fmt.Sprint(b.Z) && a.S == b.S && a.Id == b.Id &&
		slices.Equal(a.B, b.B) && slices.EqualFunc(a.L, b.L, sameTerm)
}

func sameIns(a, b api.Ins) bool {
	return a.Op == b.Op && a.A == b.A && a.B == b.B && sameTerm(a.T, b.T)
}

func sameFun(a, b api.Fun) bool {
	return a.Name == b.Name && a.Arity == b.Arity && a.Slots == b.Slots && slices.EqualFunc(a.Ins, b.Ins, sameIns)
}

// brief: as much of a text as a message needs.
func brief(s string) string {
	if len(s) > 700 {
		return s[:500] + " .. " + s[len(s)-190:]
	}
	return s
}

const opNames = "none Push Load Pop Tuple List Bin Neg Match Jump Call Tail Ret Bif Send Fail Timer Peek Next Take"

func show(l []api.Fun) string {
	var out strings.Builder
	names := strings.Fields(opNames)
	for _, f := range l[:min(len(l), 70)] {
		fmt.Fprintf(&out, "%s/%d(%d):", brief(f.Name), f.Arity, f.Slots)
		for _, in := range f.Ins {
			if out.Len() > 9000 {
				break
			}
			name := fmt.Sprint(in.Op)
			if in.Op >= 0 && in.Op < len(names) {
				name = names[in.Op]
			}
			fmt.Fprintf(&out, " %s", name)
			if in.A != 0 || in.B != 0 {
				fmt.Fprintf(&out, " %d %d", in.A, in.B)
			}
			if in.T.Kind != 0 {
				fmt.Fprintf(&out, " k%d %d%s", in.T.Kind, in.T.N, brief(in.T.S))
			}
			out.WriteString(",")
		}
		out.WriteString("\n")
	}
	return brief(out.String())
}

// wantCheck: e is what the test says, and what the chapter's words, worked out
// apart, come to.
func wantCheck(t testing.TB, what string, l []api.Fun, fun, ins int, e api.Errno) {
	t.Helper()
	if f, i, got := code.Check(l); f != fun || i != ins || got != e {
		t.Errorf("P18.1: %s: Check of %s: %d, %d, %d; want %d, %d, %d", what, show(l), f, i, got, fun, ins, e)
	}
	if f, i, got := asked(l); f != fun || i != ins || got != e {
		t.Errorf("P18.1: %s: worked out apart of %s: %d, %d, %d; want %d, %d, %d", what, show(l), f, i, got, fun, ins, e)
	}
}

func wantRight(t testing.TB, what string, l ...api.Fun) {
	t.Helper()
	wantCheck(t, what, l, 0, 0, api.OK)
}

// wantOne: of f alone, behind other functions, and ahead of them.
func wantOne(t testing.TB, what string, f api.Fun, ins int, e api.Errno) {
	t.Helper()
	wantCheck(t, what, funs(f), 0, ins, e)
	behind := 2
	if e == api.OK {
		behind = 0
	}
	wantCheck(t, what+", the third", funs(named("g", 0), named("h", 1), f), behind, ins, e)
	wantCheck(t, what+", the first", funs(f, named("g", 0), named("h", 1)), 0, ins, e)
}

// wantHeights: of f, the only function, which is right.
func wantHeights(t testing.TB, what string, f api.Fun, want ...int) {
	t.Helper()
	wantOne(t, what, f, 0, api.OK)
	if got := code.Heights(funs(f), 0); !slices.Equal(got, want) {
		t.Errorf("P18.2: %s: Heights of %s: %d; want %d", what, show(funs(f)), got, want)
	}
	if got := code.Heights(funs(named("g", 0), f), 1); !slices.Equal(got, want) {
		t.Errorf("P18.2: %s, the second: Heights of %s: %d; want %d", what, show(funs(f)), got, want)
	}
	if got, _, _ := heights(f.Ins); !slices.Equal(got, want) {
		t.Errorf("P18.2: %s: worked out apart of %s: %d; want %d", what, show(funs(f)), got, want)
	}
}
