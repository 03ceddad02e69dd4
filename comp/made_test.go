package comp_test

import (
	"strings"
	"testing"

	"rookery/api"
	"rookery/check"
	"rookery/code"
	"rookery/comp"
	"rookery/gram"
	"rookery/lex"
)

// expected: what Compile must answer of any tree.
func expected(x api.Tree) ([]api.Fun, api.Errno) {
	if e := check.Check(x); e != api.OK {
		return nil, e
	}
	l := asked(x)
	if _, _, e := code.Check(l); e != api.OK {
		return nil, e
	}
	return l, api.OK
}

// wantAsked: Compile's answer is what is worked out apart.
func wantAsked(t testing.TB, what string, x api.Tree) api.Errno {
	t.Helper()
	want, e := expected(x)
	l, got := comp.Compile(x)
	if got != e || !sameFuns(l, want) {
		t.Errorf("P19.1: %s: Compile of %s: %s, %d; want %s, %d", what, show(x), showFuns(l), got, showFuns(want), e)
	}
	return e
}

// wantAskedText: the same of Source.
func wantAskedText(t testing.TB, what, s string) api.Errno {
	t.Helper()
	l, at, e := comp.Source(s)
	var want []api.Fun
	tokens, wantAt, wantE := lex.Scan(s)
	if wantE == api.OK {
		var x api.Tree
		x, wantAt, wantE = gram.Parse(tokens)
		if wantE == api.OK {
			want, wantE = expected(x)
		}
	}
	if at != wantAt || e != wantE || !sameFuns(l, want) {
		t.Errorf("P19.1: %s: Source(%q): %s, %d, %d; want %s, %d, %d", what, brief(s), showFuns(l), at, e, showFuns(want), wantAt, wantE)
	}
	return e
}

func TestP19_1MadeRight(t *testing.T) {
	m := newMaker(191)
	ops := map[int]int{}
	refused := 0
	for i := range 3000 {
		nest := 1 + i%4
		if i%25 == 0 {
			nest = 5
		}
		x := m.prog(nest)
		if e := wantAsked(t, "made right", x); e != api.OK {
			refused++
			continue
		}
		l, _ := comp.Compile(x)
		wantFuns(t, "made right", show(x), x, l)
		for _, f := range l {
			for _, in := range f.Ins {
				ops[in.Op]++
			}
		}
	}
	for op := api.OPush; op <= api.OTake; op++ {
		if ops[op] < 300 {
			t.Errorf("only %d instructions of Op %d were made", ops[op], op)
		}
	}
	if refused > 300 {
		t.Errorf("%d of the right programs are refused", refused)
	}
}

func TestP19_1MadeSpoilt(t *testing.T) {
	m := newMaker(192)
	seen := map[api.Errno]int{}
	for i := range 9000 {
		x := m.prog(1 + i%4)
		for range 1 + m.Intn(3) {
			m.spoil(&x)
		}
		seen[wantAsked(t, "spoilt", x)]++
	}
	for _, e := range []api.Errno{api.OK, api.ErrCheckTwice, api.ErrCheckName, api.ErrCheckPattern, api.ErrCheckVar, api.ErrCheckCall, api.ErrCheckMain, api.ErrCheckTree, api.ErrCheckMany, api.ErrCodeIns, api.ErrCodeStack} {
		if seen[e] < 25 {
			t.Errorf("only so many were made: %v", seen)
			break
		}
	}
}

func TestP19_1MadeOdd(t *testing.T) {
	m := newMaker(193)
	for range 10000 {
		wantAsked(t, "odd", m.odd(5))
		wantAsked(t, "odd, in a program", program(m.odd(3), m.odd(3)))
		wantAsked(t, "odd, in a body", inMain(m.odd(3)))
	}
}

// manyTexts: of right programs, with blanks, notes and further ( ), and spoilt.
func manyTexts(seed int64) []string {
	m := newMaker(seed)
	var out []string
	for i := range 800 {
		x := m.prog(1 + i%4)
		s := m.loose(1).program(x)
		out = append(out, spare().program(x), s, m.spoilText(s))
	}
	return out
}

// spoilText: some bytes are lost, come twice, or are others.
func (m *maker) spoilText(s string) string {
	for range 1 + m.Intn(2) {
		at := m.Intn(len(s))
		end := min(len(s), at+1+m.Intn(3))
		switch m.Intn(4) {
		case 0:
			s = s[:at] + s[end:]
		case 1:
			s = s[:end] + s[at:]
		case 2:
			s = s[:at] + pick(m, "1", "X", "a", ",", "(", ")", "?", `"`, "=", "->", ".", "end", " ") + s[at:]
		default:
			s = s[:at] + pick(m, "1", "X", "a", ",", "_", "f(", "Y") + s[end:]
		}
		if s == "" {
			return s
		}
	}
	return s
}

func TestP19_1MadeTexts(t *testing.T) {
	seen := map[api.Errno]int{}
	for _, s := range append(manyTexts(194), manyTexts(195)...) {
		seen[wantAskedText(t, "a text", s)]++
	}
	if seen[api.OK] < 3000 || seen[api.ErrGramToken] < 500 || len(seen) < 7 {
		t.Errorf("only so many were made: %v", seen)
	}
}

// Tokens in any order, and any bytes.
func TestP19_1AnyTexts(t *testing.T) {
	m := newMaker(196)
	few := strings.Fields(`a A _ 1 0 "q" ( ) - + = ! , { } [ ] f( case of -> end receive after ; rem == main X X`)
	seen := map[api.Errno]int{}
	for range 60000 {
		s := "main() -> "
		for range 1 + m.Intn(9) {
			s += pick(m, few...) + " "
		}
		seen[wantAskedText(t, "any tokens", s+pick(m, ".", "", ". f(X) -> X."))]++
	}
	for range 20000 {
		b := make([]byte, m.Intn(12))
		m.Read(b)
		seen[wantAskedText(t, "any bytes", string(b))]++
		for i := range b {
			b[i] = "main()->1.%\n "[int(b[i])%13]
		}
		seen[wantAskedText(t, "any bytes of a few", "main() -> 1."+string(b))]++
	}
	if seen[api.OK] < 300 || len(seen) < 9 {
		t.Errorf("only so many were made: %v", seen)
	}
}

// Small programs, all of them: each piece last, not last, and within each place
// of other ones.
func TestP19_1AllShort(t *testing.T) {
	one, x, y := integer(1), variable("X"), variable("Y")
	pieces := []api.Tree{one, x, equal(x, one), equal(tuple(x, y, x), one), call("f"), call("self"), call("g", x), plus(x, y), choice(x, clause(y, y)), receive(clause(x, x)), receive(after(x, y))}
	var parts []api.Tree
	for _, a := range pieces {
		parts = append(parts, a, tuple(a), neg(a))
		for _, b := range pieces {
			parts = append(parts, list(a, b), plus(a, b), tree(api.TSend, "", a, b), equal(x, equal(y, a)), choice(a, clause(x, b)), choice(one, clause(y, a), clause(x, b)), receive(clause(x, a), after(b, one)), receive(after(a, b)), receive(clause(one, a, b), clause(x, b)))
		}
	}
	f, g := function("f", one), function("g", variable("P"), "P")
	ok := 0
	for _, a := range parts {
		for _, b := range pieces {
			for _, l := range [][]api.Tree{{a}, {a, b}, {b, a}, {equal(x, one), a, b}} {
				if wantAsked(t, "short", program(f, inMain(l...).L[0], g)) == api.OK {
					ok++
				}
			}
			wantAsked(t, "short, with parameters", program(f, g, function("main", one), tree(api.TFun, "h", y, x, body(a, b))))
		}
	}
	if ok < 5000 {
		t.Errorf("only %d were right", ok)
	}
}
