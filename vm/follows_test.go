package vm_test

import (
	"testing"

	"rookery/api"
	"rookery/code"
	"rookery/comp"
	"rookery/gram"
	"rookery/lex"
	"rookery/vm"
)

// treeOf: of a text that comp takes.
func treeOf(t testing.TB, s string) api.Tree {
	t.Helper()
	l, _, e := lex.Scan(s)
	if e != api.OK {
		t.Fatalf("P15.1: Scan(%q): %d", brief(s), e)
	}
	x, _, e := gram.Parse(l)
	if e != api.OK {
		t.Fatalf("P16.1: Parse of %q: %d", brief(s), e)
	}
	return x
}

// wantTold: a program asks what its tree says, one by one, and ends so.
func wantTold(t testing.TB, s string, l []api.Fun, asks []told) {
	t.Helper()
	p, e := vm.New(l, code.Find(l, "main", 0), nil)
	if e != api.OK {
		t.Fatalf("P20.1: New of %s: %d", showFuns(l), e)
	}
	for i, x := range asks {
		a := p.Run()
		for a.Kind == vm.AskTurn {
			a = p.Run()
		}
		if !sameAsk(a, x.ask) {
			t.Errorf("P20.4: %s\nthe ask %d: %s; its tree says %s", s, i, brief(askText(a)), brief(askText(x.ask)))
			return
		}
		if x.how == "" {
			return
		}
		if e := answerTo(p, x.how, x.x); e != api.OK {
			t.Errorf("P20.3: %s\nthe ask %d: %s: %s: %d", s, i, brief(askText(a)), x.how, e)
			return
		}
	}
}

// wantMeaning: a text's program means what its tree says; how it ends.
func wantMeaning(t testing.TB, m *maker, s string) string {
	t.Helper()
	l, at, e := comp.Source(s)
	if e != api.OK {
		t.Fatalf("P19.1: Source of\n%s\n: %d, %d", s, at, e)
	}
	v := &telling{maker: m, tree: treeOf(t, s), steps: 20000}
	asks, whole := v.tell()
	wantTold(t, s, l, asks)
	if !whole {
		return "goes on"
	}
	end := asks[len(asks)-1].ask
	if end.Kind == vm.AskEnd {
		return "ends"
	}
	if n := len(asks) - 2; n >= 0 && asks[n].how == "fail" {
		return "is failed"
	}
	if end.T.Kind == api.KTuple {
		end.T = end.T.L[0]
	}
	return show(end.T)
}

// Programs that ask nothing come to the value that the tree says, or fail for the
// reason that it says.
func TestP20_4AskNothing(t *testing.T) {
	m := newMaker(204)
	seen := map[string]int{}
	for i := range 9000 {
		x := &texter{maker: m}
		s := x.program(2 + i%4)
		seen[wantMeaning(t, m, s)]++
		if t.Failed() {
			t.Fatalf("the first that went wrong: %d", i)
		}
	}
	for end, least := range map[string]int{"ends": 3000, "badmatch": 300, "case_clause": 100, "badarg": 300, "zero": 100, "range": 50, "system_limit": 30} {
		if seen[end] < least {
			t.Errorf("only so many were met: %v", seen)
			break
		}
	}
}

// Programs that ask come to the same asks, whatever they are answered.
func TestP20_4Ask(t *testing.T) {
	m := newMaker(205)
	seen := map[string]int{}
	for i := range 6000 {
		x := &texter{maker: m, asks: true}
		s := x.program(2 + i%4)
		seen[wantMeaning(t, m, s)]++
		if t.Failed() {
			t.Fatalf("the first that went wrong: %d", i)
		}
	}
	if seen["ends"] < 2000 || seen["timeout"] < 20 || seen["is failed"] < 100 || len(seen) < 9 {
		t.Errorf("only so many were met: %v", seen)
	}
}

// untailed: each OTail as an OCall with an ORet behind it.
func untailed(l []api.Fun) []api.Fun {
	var out []api.Fun
	for _, f := range l {
		var ins []api.Ins
		var at []int
		for _, in := range f.Ins {
			at = append(at, len(ins))
			if in.Op == api.OTail {
				in.Op = api.OCall
				ins = append(ins, in, api.Ins{Op: api.ORet})
				continue
			}
			ins = append(ins, in)
		}
		for i := range ins {
			if op := ins[i].Op; op == api.OMatch || op == api.OJump || op == api.OPeek {
				ins[i].A = at[ins[i].A]
			}
		}
		f.Ins = ins
		out = append(out, f)
	}
	return out
}

// end: how functions that ask nothing end, behind as many turns as it takes.
func end(t testing.TB, l []api.Fun) vm.Ask {
	t.Helper()
	p, e := vm.New(l, code.Find(l, "main", 0), nil)
	if e != api.OK {
		t.Fatalf("P20.1: New of %s: %d", showFuns(l), e)
	}
	a := p.Run()
	for i := 0; a.Kind == vm.AskTurn && i < 2000; i++ {
		a = p.Run()
	}
	return a
}

// The same expressions in another code: calls that are not in their function's
// place come to the same, where there are frames enough.
func TestP20_4OtherCode(t *testing.T) {
	m := newMaker(206)
	same := 0
	for i := range 4000 {
		x := &texter{maker: m}
		l, _, e := comp.Source(x.program(2 + i%3))
		if e != api.OK {
			t.Fatalf("P19.1: Source: %d", e)
		}
		a, b := end(t, l), end(t, untailed(l))
		if b.Kind == vm.AskFail && b.T.S == "system_limit" {
			continue
		}
		same++
		if !sameAsk(a, b) {
			t.Errorf("P20.4: %s: %s; with OCall in place of OTail: %s", showFuns(l), askText(a), askText(b))
		}
	}
	if same < 3500 {
		t.Errorf("only %d came to an end", same)
	}
}

// Programs whose values everybody knows.
func TestP20_4Known(t *testing.T) {
	for s, want := range map[string]string{
		"main() -> fact(20). fact(N) -> case N of 0 -> 1; _ -> N * fact(N - 1) end.":                            "2432902008176640000",
		"main() -> fact(20, 1). fact(N, F) -> case N of 0 -> F; _ -> fact(N - 1, F * N) end.":                   "2432902008176640000",
		"main() -> fib(15). fib(N) -> case N < 2 of true -> N; false -> fib(N - 1) + fib(N - 2) end.":           "610",
		"main() -> gcd(1071, 462). gcd(A, B) -> case B of 0 -> A; _ -> gcd(B, A rem B) end.":                    "21",
		"main() -> rev([1, 2, 3, a], []). rev(L, R) -> case L of [] -> R; _ -> rev(tl(L), cons(hd(L), R)) end.": "[a,3,2,1]",
		"main() -> sort([3, 1, 2, 1, - 5]). sort(L) -> case L of [] -> []; _ -> put(hd(L), sort(tl(L))) end. put(X, L) -> case L of [] -> [X]; _ -> case X =< hd(L) of true -> cons(X, L); false -> cons(hd(L), put(X, tl(L))) end end.": "[-5,1,1,2,3]",
		"main() -> even(301). even(N) -> case N of 0 -> true; _ -> odd(N - 1) end. odd(N) -> case N of 0 -> false; _ -> even(N - 1) end.":                                                                                                "false",
		"main() -> ack(2, 3). ack(M, N) -> case {M, N} of {0, _} -> N + 1; {_, 0} -> ack(M - 1, 1); _ -> ack(M - 1, ack(M, N - 1)) end.":                                                                                                 "9",
		"main() -> count(10000). count(N) -> case N of 0 -> done; _ -> count(N - 1) end.":                                                                                                                                                "done",
		"main() -> power(cx(0, 1), 4). power(Z, N) -> case N of 0 -> cx(1, 0); _ -> Z * power(Z, N - 1) end.":                                                                                                                            "(1,0)",
		"main() -> sum({1, {2, {3, []}}}). sum(T) -> case T of [] -> 0; {X, R} -> X + sum(R) end.":                                                                                                                                       "6",
		"main() -> X = Y = {1, Z = 2}, {X, Y, Z}.":                     "{{1,2},{1,2},2}",
		"main() -> 1 + 2 * 3 - 4 / 2 rem 3 == 5.":                      "true",
		"main() -> - - 3 - - 2.":                                       "5",
		"main() -> case {1, [a, \"b\"]} of {X, [_, Y]} -> {Y, X} end.": "{\"b\",1}",
	} {
		l, main := source(t, s)
		if got := askText(must(t, "a known program", l, main).on()); got != "end "+want {
			t.Errorf("P20.4: %s: %s; want end %s", s, got, want)
		}
		if got := wantMeaning(t, newMaker(1), s); got != "ends" && got != "goes on" {
			t.Errorf("P20.4: %s: %s", s, got)
		}
	}
}
