package check_test

import (
	"slices"
	"strconv"
	"strings"
	"testing"

	"rookery/api"
	"rookery/check"
	"rookery/gram"
	"rookery/lex"
)

// written: an expression's text, each part of it in brackets.
func written(x api.Tree) string {
	part := func(i int) string { return "(" + written(x.L[i]) + ")" }
	switch x.Kind {
	case api.TInt:
		return strconv.FormatInt(x.N, 10)
	case api.TAtom, api.TVar:
		return x.S
	case api.TBytes:
		return lex.Spell(api.Token{Kind: api.TkBytes, B: x.B})
	case api.TTuple:
		return "{" + commas(x.L) + "}"
	case api.TList:
		return "[" + commas(x.L) + "]"
	case api.TNeg:
		return "- " + part(0)
	case api.TBin:
		return part(0) + " " + x.S + " " + part(1)
	case api.TEqual:
		return part(0) + " = " + part(1)
	case api.TSend:
		return part(0) + " ! " + part(1)
	case api.TCall:
		return x.S + "(" + commas(x.L) + ")"
	case api.TCase:
		return "case " + part(0) + " of " + clauses(x.L[1:]) + " end"
	}
	return "receive " + clauses(x.L) + " end"
}

func commas(l []api.Tree) string {
	var out []string
	for _, x := range l {
		out = append(out, written(x))
	}
	return strings.Join(out, ", ")
}

func clauses(l []api.Tree) string {
	out := ""
	for i, x := range l {
		head := "; "
		if x.Kind == api.TAfter {
			head = " after "
		} else if i == 0 {
			head = ""
		}
		out += head + "(" + written(x.L[0]) + ") -> " + commas(x.L[1].L)
	}
	return out
}

func writtenProg(p api.Tree) string {
	out := ""
	for _, f := range p.L {
		n := len(f.L) - 1
		out += f.S + "(" + commas(f.L[:n]) + ") -> " + commas(f.L[n].L) + ". "
	}
	return out
}

// loose: a program of the grammar, right or not.
func (m *maker) loose(nest int) api.Tree {
	x := m.prog(nest)
	for range m.Intn(6) {
		parts := all(&x)
		p, other := pick(m, parts...), pick(m, parts...)
		before := copied(x)
		switch m.Intn(3) {
		case 0:
			m.spoilName(p, *other)
		case 1:
			*p = copied(*other)
		default:
			m.spoil(&x)
		}
		if asked(x) == api.ErrCheckTree {
			x = before
		}
	}
	return x
}

func taken(s string) (api.Tree, bool) {
	l, _, e := lex.Scan(s)
	if e != api.OK {
		return api.Tree{}, false
	}
	x, _, e := gram.Parse(l)
	return x, e == api.OK
}

// What Parse answers of what Scan answers is never ErrCheckTree, unless its
// bytes are too many.
func TestP17_3NeverTree(t *testing.T) {
	m := newMaker(175)
	took := 0
	seen := map[api.Errno]int{}
	for i := range 8000 {
		x := m.loose(1 + i%3)
		y, ok := taken(writtenProg(x))
		if !ok {
			continue
		}
		took++
		if !same(x, y) {
			t.Fatalf("the text of %s is another tree: %s", show(x), show(y))
		}
		e := wantAsked(t, "written", y)
		seen[e]++
		if e == api.ErrCheckTree {
			t.Errorf("P17.3: %s: %d", brief(writtenProg(x)), e)
		}
	}
	if took < 5000 || len(seen) < 7 {
		t.Errorf("only %d texts were taken: %v", took, seen)
	}
}

// Tokens in any order: those that Parse takes.
func TestP17_3AnyTokens(t *testing.T) {
	m := newMaker(176)
	few := strings.Fields(`a A _ 1 0 "q" ( ) - + = ! , { } [ ] f( case of -> end receive after ; rem == main`)
	took := 0
	for range 200000 {
		s := "main() -> "
		for range 1 + m.Intn(9) {
			s += pick(m, few...) + " "
		}
		x, ok := taken(s + ".")
		if !ok {
			continue
		}
		took++
		if e := wantAsked(t, "any tokens", x); e == api.ErrCheckTree {
			t.Errorf("P17.3: %s: %d", s, e)
		}
	}
	if took < 1000 {
		t.Errorf("only %d were taken", took)
	}
}

func TestP17_3Edges(t *testing.T) {
	long := strings.Repeat("x", 31)
	for s, e := range map[string]api.Errno{
		"": api.ErrCheckMain, "main() -> a" + long + ".": api.OK, "main() -> X" + long + " = 1, X" + long + ".": api.OK, "main() -> 4611686018427387903.": api.OK, "main() -> _" + long + " = 1.": api.OK, "main() -> a" + long + "(). a" + long + "() -> 1.": api.OK, "main() -> __.": api.ErrCheckVar,
		`main() -> "` + strings.Repeat("a", 4096) + `".`: api.OK, `main() -> "` + strings.Repeat("a", 4097) + `".`: api.ErrCheckTree, `main() -> "` + strings.Repeat("a", 16000) + `".`: api.ErrCheckTree, `main() -> "` + strings.Repeat(`\x00`, 4000) + `".`: api.OK,
		`main() -> "` + strings.Repeat("a", 4097) + `" = X.`: api.ErrCheckTree,
	} {
		wantText(t, "P17.3: an edge", s, e)
	}
	for _, c := range []struct{ head, one, between, end string }{
		{"", "f(X)->a.", "", ""}, {"f()->", "a", ",", "."}, {"f()->[", "A", ",", "]."}, {"f()->", "a", "*", "."}, {"f()->", "g()", "-", "."}, {"f(", "X", ",", ")->a."}, {"f()->receive ", "a->b", ";", " end."}, {"f()->case a of ", "X->Y", ";", " end."}, {"f()->", "-a", ",", "."}, {"f()->", "receive after a->B end", ",", "."},
	} {
		for n := 1; ; n += 97 {
			x, ok := taken(c.head + strings.Repeat(c.one+c.between, n) + c.one + c.end)
			if !ok {
				break
			}
			if e := wantAsked(t, "very many", x); e == api.ErrCheckTree || e == api.ErrCheckMany && len(flat(x, 1<<20)) > 4000 {
				t.Errorf("P17.3: very many %s: %d", c.one, e)
			}
		}
	}
}

// A program with a further function that nobody calls, whose name is another
// one, is as right as it was, wherever that function stands.
func TestP17_3Further(t *testing.T) {
	m := newMaker(177)
	seen := map[api.Errno]int{}
	for i := range 6000 {
		x := m.loose(1 + i%3)
		e := check.Check(x)
		seen[e]++
		f := m.prog(2).L[0]
		f.S = "further"
		calls := func(p api.Tree) bool { return p.Kind == api.TCall && strings.Contains("main f g h hd", p.S) }
		if slices.ContainsFunc(flat(f, 1<<20), calls) || len(flat(x, 1<<20)) > 3000 || len(slots(f)) > 64 {
			f = function("further", variable("Z"), "Z", "_")
		}
		for at := range len(x.L) + 1 {
			if got := check.Check(program(slices.Insert(slices.Clone(x.L), at, f)...)); got != e {
				t.Errorf("P17.3: Check of %s: %d; with %s it is %d", show(x), e, show(f), got)
			}
		}
	}
	if seen[api.OK] < 500 || len(seen) < 7 {
		t.Errorf("only so many were made: %v", seen)
	}
	for n := range 63 {
		x := manyFunctions(n + 1)
		wantCheck(t, "P17.3: up to 64 functions", program(append(x.L, function("further", integer(1)))...), api.OK)
	}
}
