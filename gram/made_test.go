package gram_test

import (
	"math/rand"
	"slices"
	"testing"

	"rookery/api"
)

// maker makes trees and tokens out of a row of numbers that is the same in each run.
type maker struct{ *rand.Rand }

func newMaker(seed int64) maker { return maker{rand.New(rand.NewSource(seed))} }

func pick[T any](m maker, l ...T) T { return l[m.Intn(len(l))] }

func joining() []string {
	return []string{"==", "/=", "<", ">", "=<", ">=", "+", "-", "*", "/", "rem"}
}

func (m maker) atom() string { return pick(m, "a", "b", "foo", "main", "self", "x_1") }

func (m maker) variable() string { return pick(m, "X", "Y", "_", "Z9", "_a") }

func (m maker) several(from, to int, f func() api.Tree) []api.Tree {
	var out []api.Tree
	for range from + m.Intn(to-from+1) {
		out = append(out, f())
	}
	return out
}

func (m maker) leaf() api.Tree {
	switch m.Intn(4) {
	case 0:
		return treeInt(pick[int64](m, 0, 1, 10, api.MaxInt))
	case 1:
		return tree(api.TAtom, m.atom())
	case 2:
		return tree(api.TVar, m.variable())
	}
	return treeBytes(pick(m, "", "q", "a b", "\x00\xff"))
}

// expr: an expression of any kind that nests at most so often.
func (m maker) expr(nest int) api.Tree {
	if nest == 0 || m.Intn(6) == 0 {
		return m.leaf()
	}
	one := func() api.Tree { return m.expr(nest - 1) }
	clause := func() api.Tree { return tree(api.TClause, "", m.pattern(nest-1), m.body(nest-1)) }
	switch m.Intn(12) {
	case 0:
		return tree(api.TTuple, "", m.several(0, 3, one)...)
	case 1:
		return tree(api.TList, "", m.several(0, 3, one)...)
	case 2:
		return tree(api.TNeg, "", one())
	case 3, 4, 5:
		return tree(api.TBin, pick(m, joining()...), one(), one())
	case 6:
		return tree(api.TEqual, "", one(), one())
	case 7:
		return tree(api.TSend, "", one(), one())
	case 8, 9:
		return tree(api.TCall, m.atom(), m.several(0, 3, one)...)
	case 10:
		return tree(api.TCase, "", append([]api.Tree{one()}, m.several(1, 3, clause)...)...)
	}
	after := m.Intn(3)
	l := m.several(min(1, after), 3, clause)
	if after < 2 || len(l) == 0 {
		l = append(l, tree(api.TAfter, "", one(), m.body(nest-1)))
	}
	return tree(api.TRecv, "", l...)
}

// pattern: any expression can be one, in brackets if it must.
func (m maker) pattern(nest int) api.Tree {
	return pick(m, m.leaf(), tree(api.TNeg, "", treeInt(1)), tree(api.TTuple, "", m.leaf(), m.leaf()), m.expr(nest))
}

func (m maker) body(nest int) api.Tree {
	return tree(api.TBody, "", m.several(1, 3, func() api.Tree { return m.expr(nest) })...)
}

func (m maker) prog(nest int) api.Tree {
	param := func() api.Tree { return tree(api.TVar, m.variable()) }
	return tree(api.TProg, "", m.several(0, 3, func() api.Tree {
		return tree(api.TFun, m.atom(), append(m.several(0, 3, param), m.body(nest))...)
	})...)
}

// How tightly a tree joins: what stands where a tighter one must, needs brackets.
const (
	loose = iota
	compared
	summed
	multiplied
	unary
	tight
)

func joins(x api.Tree) int {
	switch x.Kind {
	case api.TEqual, api.TSend:
		return loose
	case api.TNeg:
		return unary
	case api.TBin:
		switch x.S {
		case "+", "-":
			return summed
		case "*", "/", "rem":
			return multiplied
		}
		return compared
	}
	return tight
}

func joiner(s string) api.Token {
	if s == "rem" {
		return word(s)
	}
	return sign(s)
}

// written: the tokens of a tree, with brackets where they must be, and, if m
// likes it, with more of them.
func (m maker) written(x api.Tree, least int) []api.Token {
	if joins(x) < least || m.Rand != nil && m.Intn(12) == 0 {
		return slices.Concat([]api.Token{sign("(")}, m.written(x, loose), []api.Token{sign(")")})
	}
	switch x.Kind {
	case api.TInt:
		return []api.Token{integer(x.N)}
	case api.TAtom:
		return []api.Token{name(x.S)}
	case api.TVar:
		return []api.Token{variable(x.S)}
	case api.TBytes:
		return []api.Token{raw(string(x.B))}
	case api.TNeg:
		return append([]api.Token{sign("-")}, m.written(x.L[0], unary)...)
	case api.TEqual:
		return m.between(sign("="), m.written(x.L[0], compared), m.written(x.L[1], loose))
	case api.TSend:
		return m.between(sign("!"), m.written(x.L[0], compared), m.written(x.L[1], loose))
	case api.TBin:
		left, right := joins(x), joins(x)+1
		if left == compared {
			left = summed
		}
		return m.between(joiner(x.S), m.written(x.L[0], left), m.written(x.L[1], right))
	case api.TTuple:
		return m.around("{", "}", x.L)
	case api.TList:
		return m.around("[", "]", x.L)
	case api.TCall:
		return append([]api.Token{name(x.S)}, m.around("(", ")", x.L)...)
	case api.TCase:
		head := slices.Concat([]api.Token{word("case")}, m.written(x.L[0], loose), []api.Token{word("of")})
		return slices.Concat(head, m.clauses(x.L[1:]), []api.Token{word("end")})
	}
	return slices.Concat([]api.Token{word("receive")}, m.clauses(x.L), []api.Token{word("end")})
}

func (m maker) between(s api.Token, l ...[]api.Token) []api.Token {
	var out []api.Token
	for i, x := range l {
		if i > 0 {
			out = append(out, s)
		}
		out = append(out, x...)
	}
	return out
}

func (m maker) commas(l []api.Tree) []api.Token {
	var out [][]api.Token
	for _, x := range l {
		out = append(out, m.written(x, loose))
	}
	return m.between(sign(","), out...)
}

func (m maker) around(open, end string, l []api.Tree) []api.Token {
	return slices.Concat([]api.Token{sign(open)}, m.commas(l), []api.Token{sign(end)})
}

func (m maker) clauses(l []api.Tree) []api.Token {
	var out []api.Token
	for i, x := range l {
		least := unary
		if x.Kind == api.TAfter {
			least = loose
			out = append(out, word("after"))
		} else if i > 0 {
			out = append(out, sign(";"))
		}
		out = slices.Concat(out, m.written(x.L[0], least), []api.Token{sign("->")}, m.commas(x.L[1].L))
	}
	return out
}

// writtenProg: parameters never stand in brackets.
func (m maker) writtenProg(x api.Tree) []api.Token {
	var out []api.Token
	for _, f := range x.L {
		last := len(f.L) - 1
		out = append(append(out, name(f.S), sign("(")), maker{}.commas(f.L[:last])...)
		out = append(append(append(out, sign(")"), sign("->")), m.commas(f.L[last].L)...), sign("."))
	}
	return out
}

// anyToken: one that a text may have.
func (m maker) anyToken() api.Token {
	switch m.Intn(8) {
	case 0:
		return integer(int64(m.Intn(3)))
	case 1:
		return name(m.atom())
	case 2:
		return variable(m.variable())
	case 3:
		return raw("q")
	case 4:
		return word(pick(m, words()...))
	}
	return sign(pick(m, allSigns()...))
}

// oddToken: its fields need not agree with each other.
func (m maker) oddToken() api.Token {
	s := pick(m, append(append(words(), allSigns()...), "", "a", "X", "_", " ", "int", "when", "+ -", "* /", "\xff")...)
	return api.Token{Kind: m.Intn(9) - 1, S: s, N: pick[int64](m, 0, 1, -1, api.MinInt, 1<<63-1), B: pick(m, nil, []byte("b")), At: m.Intn(5) - 2}
}

// spoil: l with a token put in, taken out, doubled or put in another's place.
func (m maker) spoil(l []api.Token, token func() api.Token) []api.Token {
	i := m.Intn(len(l) + 1)
	j := min(len(l), i+m.Intn(3))
	if m.Intn(4) == 0 {
		return slices.Concat(l[:i], l[max(0, i-1):])
	}
	return slices.Concat(l[:i], []api.Token{token()}[m.Intn(2):], l[j:])
}

// What a tree is written as is parsed as that tree, with brackets only where
// they must be and with more of them.
func TestP16_1Written(t *testing.T) {
	m := newMaker(161)
	kinds := map[int]int{}
	for i := range 6000 {
		x := m.prog(1 + i%4)
		bare, full := maker{}.writtenProg(x), m.writtenProg(x)
		wantTree(t, "brackets where they must be", bare, x)
		wantTree(t, "more brackets", full, x)
		count(kinds, x)
	}
	for k := api.TInt; k <= api.TProg; k++ {
		if kinds[k] < 500 {
			t.Errorf("P16.1: only %d trees of kind %d were made", kinds[k], k)
		}
	}
}

func count(kinds map[int]int, x api.Tree) {
	kinds[x.Kind]++
	for _, p := range x.L {
		count(kinds, p)
	}
}
