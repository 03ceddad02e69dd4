package gram_test

import (
	"slices"
	"testing"

	"rookery/api"
)

// way: how one gets one deeper: what stands ahead of the deeper part, and behind
// it; deep is the number in open of the token with which one gets deeper.
type way struct {
	name      string
	open, end []api.Token
	deep      int
}

func ways(t *testing.T) []way {
	w := func(name, open, end string, deep int) way { return way{name, scan(t, open), scan(t, end), deep} }
	return []way{
		w("( of an expression", "(", ")", 0), w("( of a call", "g (", ")", 1), w("( of a call, a further argument", "g ( 1 ,", ")", 1), w("{", "{", "}", 0), w("{, a further element", "{ a ,", "}", 0), w("[", "[", "]", 0),
		w("case, its expression", "case", "of 1 -> 2 end", 0), w("case, a pattern", "case 1 of {", "} -> 2 end", 0), w("case, a body", "case 1 of 2 ->", "end", 0), w("case, a second body", "case 1 of 2 -> 3 ; 4 -> 5 ,", "end", 0),
		w("receive, a body", "receive 1 ->", "end", 0), w("receive, an after", "receive after", "-> 1 end", 0), w("receive, an after's body", "receive 1 -> 2 after 3 ->", "end", 0),
		w("-", "- (", ")", 0), w("=", "A =", "", 1), w("!", "A !", "", 1), w("= behind a sum", "A + 1 < 2 =", "", 5), w("! behind a product", "A * 2 !", "", 3),
	}
}

// steps: how much deeper one is within a way; a bracket that stands there for
// the grammar's sake alone counts as well.
func (w way) steps() int {
	if w.name == "-" || w.name == "case, a pattern" {
		return 2
	}
	return 1
}

// nested: f whose body lies within these ways, one in the other, around x.
func nested(l []way, x ...api.Token) []api.Token {
	out := x
	for _, w := range slices.Backward(l) {
		out = slices.Concat(w.open, out, w.end)
	}
	return bodied(out...)
}

// opened: how many tokens stand ahead of what lies within these ways.
func opened(l []way) int {
	n := 4
	for _, w := range l {
		n += len(w.open)
	}
	return n
}

// outerOnes: so many ( of expressions.
func outerOnes(t *testing.T, n int) []way { return slices.Repeat(ways(t)[:1], n) }

// Just MaxNest deep, and one deeper, by each way: the whole way down, at the
// bottom alone, and with others around it.
func TestP16_1Deep(t *testing.T) {
	r, all := readGrammar(), ways(t)
	one := integer(1)
	for _, w := range all {
		for _, around := range []int{0, 1, 20, 40 - w.steps()} {
			l := append(outerOnes(t, around), slices.Repeat([]way{w}, (40-around)/w.steps())...)
			l = append(outerOnes(t, (40-around)%w.steps()), l...)
			if r.wantAsked(t, w.name+": 40 deep", nested(l, one)) != api.OK {
				t.Errorf("P16.1: %s: 40 deep is too deep", w.name)
			}
			for _, v := range all {
				wantRefused(t, w.name+": 40 deep, and then "+v.name, nested(append(slices.Clone(l), v), one), opened(l)+v.deep, api.ErrGramDeep)
				wantRefused(t, w.name+": 40 deep, and very many more", nested(append(slices.Clone(l), slices.Repeat([]way{v}, 20)...), one), opened(l)+v.deep, api.ErrGramDeep)
			}
		}
	}
}

// - alone, not in brackets.
func TestP16_1DeepMinus(t *testing.T) {
	minus := func(n int) []api.Token { return append(slices.Repeat([]api.Token{sign("-")}, n), integer(1)) }
	want := treeInt(1)
	for range 40 {
		want = tree(api.TNeg, "", want)
	}
	wantTree(t, "40 -", bodied(minus(40)...), inBody(want))
	wantRefused(t, "41 -", bodied(minus(41)...), 4+40, api.ErrGramDeep)
	wantRefused(t, "1000 -", bodied(minus(1000)...), 4+40, api.ErrGramDeep)
	wantTree(t, "40 - behind a -", bodied(append([]api.Token{integer(2), sign("-")}, minus(40)...)...), inBody(tree(api.TBin, "-", treeInt(2), want)))
	wantRefused(t, "41 - behind a -", bodied(append([]api.Token{integer(2), sign("-")}, minus(41)...)...), 6+40, api.ErrGramDeep)
	wantTree(t, "40 - ahead of a - that joins", bodied(append(minus(40), append([]api.Token{sign("-")}, minus(40)...)...)...), inBody(tree(api.TBin, "-", want, want)))
}

// Whether what was deep is behind it: brackets, -, =, calls and the like side by
// side are not within each other.
func TestP16_1SideBySide(t *testing.T) {
	r := readGrammar()
	for _, s := range []string{"(1)", "g(1)", "{}", "[1]", "- 1", "case 1 of 2 -> 3 end", "receive after 1 -> 2 end", "- (A = 1)", "((A ! B))"} {
		for _, between := range []string{",", "+", "*", "-", "rem"} {
			l := scan(t, s)
			for range 100 {
				l = slices.Concat(l, scan(t, between+" "+s))
			}
			if r.wantAsked(t, "side by side", bodied(l...)) != api.OK {
				t.Errorf("P16.1: %s with %s between: it is too deep", s, between)
			}
		}
	}
	for _, s := range []string{"A = 1", "A ! 1", "A = B ! C = D"} {
		l := scan(t, s)
		for range 100 {
			l = slices.Concat(l, scan(t, ", "+s))
		}
		if r.wantAsked(t, "side by side", bodied(l...)) != api.OK {
			t.Errorf("P16.1: %s with commas between: it is too deep", s)
		}
	}
	l := outerOnes(t, 39)
	for _, s := range []string{"(1) + (2) * (3)", "- 1 - - 2 * - 3", "A + B = - 0 * 1 + 2", "g() ! 1", "A = 1", "{{}}", "g(h())", "case 1 of A = 2 -> 3 end"} {
		r.wantAsked(t, "within 39", nested(l, scan(t, s)...))
		r.wantAsked(t, "within 40", nested(append(l, l[0]), scan(t, s)...))
		r.wantAsked(t, "within 38", nested(l[1:], scan(t, s)...))
	}
	wantRefused(t, "= reaches to the end", nested(l, scan(t, "A = 1 + (2)")...), 4+39+4, api.ErrGramDeep)
	wantRefused(t, "! reaches to the end", nested(l, scan(t, "A ! 1 * - 2")...), 4+39+4, api.ErrGramDeep)
	wantTree(t, "what stands ahead of = is not deeper", nested(l, scan(t, "(B) + - C = 1")...), inBody(tree(api.TEqual, "", tree(api.TBin, "+", tree(api.TVar, "B"), tree(api.TNeg, "", tree(api.TVar, "C"))), treeInt(1))))
}

// Parameters lie in no bracket that counts; bodies of functions begin anew.
func TestP16_1OutmostIsZero(t *testing.T) {
	deep := nested(outerOnes(t, 40), integer(1))
	wantTree(t, "two that are 40 deep", slices.Concat(deep, deep), tree(api.TProg, "", inBody(treeInt(1)).L[0], inBody(treeInt(1)).L[0]))
	head := scan(t, "g(X, Y) ->")
	wantTree(t, "with parameters", slices.Concat(head, deep[4:]), tree(api.TProg, "", tree(api.TFun, "g", tree(api.TVar, "X"), tree(api.TVar, "Y"), tree(api.TBody, "", treeInt(1)))))
	wantRefused(t, "41 in the second", slices.Concat(deep, nested(outerOnes(t, 41), integer(1))), len(deep)+44, api.ErrGramDeep)
}

// What is wrong ahead comes first; what is wrong behind does not.
func TestP16_1DeepAndWrong(t *testing.T) {
	l := outerOnes(t, 40)
	for _, w := range ways(t) {
		whole := nested(append(slices.Clone(l), w), integer(1))
		at := opened(l) + w.deep
		wantRefused(t, w.name+": cut off behind it", whole[:at+1], at, api.ErrGramDeep)
		for _, x := range allTokens() {
			wantRefused(t, w.name+": something wrong behind it", append(slices.Clone(whole[:at+1]), x), at, api.ErrGramDeep)
		}
		wantRefused(t, w.name+": something wrong ahead of it", append([]api.Token{integer(1)}, whole...), 0, api.ErrGramToken)
		wantRefused(t, w.name+": something wrong ahead of it", slices.Concat(whole[:10], []api.Token{sign("+")}, whole[10:]), 10, api.ErrGramToken)
		wantRefused(t, w.name+": the tokens end ahead of it", whole[:at], at, api.ErrGramToken)
	}
	wantRefused(t, "receive end", nested(l, word("receive"), word("end")), 44, api.ErrGramDeep)
	wantRefused(t, "()", nested(l, sign("("), sign(")")), 44, api.ErrGramDeep)
	wantRefused(t, "- )", nested(l, sign("-"), sign(")")), 44, api.ErrGramDeep)
}

// Where it can't stand, no token makes anything deeper: it is told as such.
func TestP16_1DeepWhereItCanNotStand(t *testing.T) {
	l := outerOnes(t, 40)
	for _, s := range []string{"(", "{", "[", "case", "receive"} {
		x := scan(t, s)[0]
		for _, ahead := range []string{"1", "X", `"q"`} {
			wantRefused(t, "behind "+ahead, nested(l, append(scan(t, ahead), x)...), 45, api.ErrGramToken)
		}
		if s != "(" {
			wantRefused(t, "behind an atom", nested(l, name("a"), x), 45, api.ErrGramToken)
		}
	}
	for _, s := range []string{"=", "!"} {
		wantRefused(t, "nothing on the left", nested(l, sign(s), integer(1)), 44, api.ErrGramToken)
		wantRefused(t, "behind a +", nested(l, integer(1), sign("+"), sign(s)), 46, api.ErrGramToken)
		wantRefused(t, "behind a whole one", nested(l, integer(1), sign(s), sign(s)), 45, api.ErrGramDeep)
		wantRefused(t, "in a pattern", nested(l[1:], scan(t, "case 1 of A "+s+" B -> 1 end")...), 4+39+4, api.ErrGramToken)
	}
	wantTree(t, "a - that joins", nested(l, scan(t, "1 - 2 - 3")...), inBody(tree(api.TBin, "-", tree(api.TBin, "-", treeInt(1), treeInt(2)), treeInt(3))))
	wantRefused(t, "a - that joins, and another one", nested(l, scan(t, "1 - - 2")...), 46, api.ErrGramDeep)
	wantRefused(t, "a - behind a *", nested(l, scan(t, "1 * - 2")...), 46, api.ErrGramDeep)
	wantTree(t, "an atom alone", nested(l, name("a")), inBody(tree(api.TAtom, "a")))
}

func TestP16_1DeepMixed(t *testing.T) {
	r, m := readGrammar(), newMaker(164)
	all := ways(t)
	seen := map[api.Errno]int{}
	for range 1500 {
		var l []way
		for range 15 + m.Intn(32) {
			l = append(l, pick(m, all...))
		}
		x := nested(l, m.written(m.expr(2), loose)...)
		seen[r.wantAsked(t, "mixed", x)]++
		seen[r.wantAsked(t, "mixed and spoilt", m.spoil(x, m.anyToken))]++
	}
	for _, e := range []api.Errno{api.OK, api.ErrGramToken, api.ErrGramDeep} {
		if seen[e] < 250 {
			t.Errorf("P16.1: only %d were made that ask for %d", seen[e], e)
		}
	}
}
