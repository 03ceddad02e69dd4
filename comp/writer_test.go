package comp_test

import (
	"strconv"
	"strings"

	"rookery/api"
	"rookery/lex"
)

// writer writes trees as texts: with the ( ) that join something else, with as
// many more as more says, and with blanks and notes as gap says, between tokens.
type writer struct {
	more func() int
	gap  func() string
	out  strings.Builder
}

// spare: a writer without further ( ), with one blank between tokens.
func spare() *writer {
	return &writer{more: func() int { return 0 }, gap: func() string { return " " }}
}

// loose: a writer with further ( ), blanks and notes.
func (m *maker) loose(most int) *writer {
	w := &writer{gap: func() string {
		return pick(m, " ", "\t", "\n", "\r\n", "  \n\t", " % a note.\n", "%\n", "%% \" ? 1a %\n ")
	}}
	w.more = func() int { return max(0, m.Intn(most+3)-2) }
	return w
}

func (w *writer) token(s string) {
	w.out.WriteString(w.gap())
	w.out.WriteString(s)
}

// program: the text of a right tree.
func (w *writer) program(x api.Tree) string {
	w.out.Reset()
	for _, f := range x.L {
		n := len(f.L) - 1
		w.token(f.S)
		w.token("(")
		for i, p := range f.L[:n] {
			if i > 0 {
				w.token(",")
			}
			w.token(p.S)
		}
		w.token(")")
		w.token("->")
		w.body(f.L[n])
		w.token(".")
	}
	w.out.WriteString(w.gap())
	return w.out.String()
}

func (w *writer) body(x api.Tree) { w.commas(x.L) }

func (w *writer) commas(l []api.Tree) {
	for i, x := range l {
		if i > 0 {
			w.token(",")
		}
		w.at(x, 0)
	}
}

// level: of an expression, 0 (EXPR) to 5 (PRIM), and of its left and right.
func level(x api.Tree) (own, left, right int) {
	switch x.Kind {
	case api.TEqual, api.TSend:
		return 0, 1, 0
	case api.TNeg:
		return 4, 4, 4
	case api.TBin:
		switch x.S {
		case "+", "-":
			return 2, 2, 3
		case "*", "/", "rem":
			return 3, 3, 4
		}
		return 1, 2, 2
	}
	return 5, 5, 5
}

// at: x where one of that level may stand.
func (w *writer) at(x api.Tree, least int) {
	own, left, right := level(x)
	brackets := w.more()
	if own < least {
		brackets++
	}
	for range brackets {
		w.token("(")
	}
	switch x.Kind {
	case api.TNeg:
		w.token("-")
		w.at(x.L[0], left)
	case api.TBin, api.TEqual, api.TSend:
		w.at(x.L[0], left)
		switch x.Kind {
		case api.TEqual:
			w.token("=")
		case api.TSend:
			w.token("!")
		default:
			w.token(x.S)
		}
		w.at(x.L[1], right)
	default:
		w.prim(x)
	}
	for range brackets {
		w.token(")")
	}
}

func (w *writer) prim(x api.Tree) {
	switch x.Kind {
	case api.TInt:
		w.token(strconv.FormatInt(x.N, 10))
	case api.TAtom, api.TVar:
		w.token(x.S)
	case api.TBytes:
		w.token(lex.Spell(api.Token{Kind: api.TkBytes, B: x.B}))
	case api.TTuple:
		w.within("{", x.L, "}")
	case api.TList:
		w.within("[", x.L, "]")
	case api.TCall:
		w.token(x.S)
		w.within("(", x.L, ")")
	case api.TCase:
		w.token("case")
		w.at(x.L[0], 0)
		w.token("of")
		w.clauses(x.L[1:])
	case api.TRecv:
		w.token("receive")
		w.clauses(x.L)
	}
}

func (w *writer) within(open string, l []api.Tree, shut string) {
	w.token(open)
	w.commas(l)
	w.token(shut)
}

func (w *writer) clauses(l []api.Tree) {
	for i, x := range l {
		least := 4
		if x.Kind == api.TAfter {
			w.token("after")
			least = 0
		} else if i > 0 {
			w.token(";")
		}
		w.at(x.L[0], least)
		w.token("->")
		w.body(x.L[1])
	}
	w.token("end")
}
