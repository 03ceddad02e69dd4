package comp_test

import (
	"fmt"
	"slices"
	"strings"
	"testing"

	"rookery/api"
	"rookery/comp"
)

// renamed: x with other names for its variables.
func renamed(x api.Tree, names func(s string) string) api.Tree {
	x = copied(x)
	for _, p := range all(&x) {
		if p.Kind == api.TVar && p.S != "_" {
			p.S = names(p.S)
		}
	}
	return x
}

// newNames: for each name of the list another one, none of them twice; they may
// be names of the list too.
func (m *maker) newNames(old []string) func(s string) string {
	pool := append(slices.Clone(old), "V0", "V1", "B0", "B1", "__", "_1", "Z", "Infinity", "X"+strings.Repeat("x", 31), "A0")
	m.Shuffle(len(pool), func(i, k int) { pool[i], pool[k] = pool[k], pool[i] })
	return func(s string) string { return pool[slices.Index(old, s)] }
}

var makersNames = []string{"A", "B", "C", "P", "X", "Y", "_z", "Long_1"}

// Names of variables play no part, but by their order.
func TestP19_2Names(t *testing.T) {
	m := newMaker(201)
	right := 0
	for i := range 2500 {
		x := m.prog(1 + i%4)
		if i%4 == 0 {
			m.spoilName(pick(m, all(&x)...))
		}
		y := renamed(x, m.newNames(makersNames))
		a, e := comp.Compile(x)
		b, e2 := comp.Compile(y)
		if e != e2 || !sameFuns(a, b) {
			t.Errorf("P19.2: %s: %s, %d; with other names: %s, %d", show(x), showFuns(a), e, showFuns(b), e2)
		}
		if e == api.OK {
			right++
		}
		if i%4 == 1 {
			a, at, e := comp.Source(spare().program(x))
			b, at2, e2 := comp.Source(spare().program(y))
			if at != at2 || e != e2 || !sameFuns(a, b) {
				t.Errorf("P19.2: the text of %s: %s, %d, %d; with other names: %s, %d, %d", show(x), showFuns(a), at, e, showFuns(b), at2, e2)
			}
		}
	}
	if right < 1800 {
		t.Errorf("only %d were right", right)
	}
}

// Each function's names are its own: in another one they may be others.
func TestP19_2NamesOfOneFunction(t *testing.T) {
	m := newMaker(202)
	for i := range 1500 {
		x := m.prog(1 + i%4)
		y := copied(x)
		for k := range y.L {
			y.L[k] = renamed(y.L[k], m.newNames(makersNames))
		}
		a, e := comp.Compile(x)
		b, e2 := comp.Compile(y)
		if e != e2 || !sameFuns(a, b) {
			t.Errorf("P19.2: %s: %s, %d; with names of each function's own: %s, %d", show(x), showFuns(a), e, showFuns(b), e2)
		}
	}
}

// wantSameCode: all these texts have the same functions.
func wantSameCode(t testing.TB, texts ...string) {
	t.Helper()
	want := compiled(t, "P19.2", texts[0])
	for _, s := range texts[1:] {
		l, at, e := comp.Source(s)
		if at != 0 || e != api.OK || !sameFuns(l, want) {
			t.Errorf("P19.2: Source of %q: %s, %d, %d; of %q: %s", s, showFuns(l), at, e, texts[0], showFuns(want))
		}
	}
}

func TestP19_2SameCode(t *testing.T) {
	wantSameCode(t, "main() -> X = 1, X + 2.", "main() -> Y = 1, Y + 2.", "main() -> V1 = 1, V1 + 2.", "main()->X=1,X+2.", "main ( ) -> X = 1 , X + 2 .", "\n%%%\nmain(%(\n)->\tX\r=\n1%.\n,X%\n+2.%",
		"main() -> (X = 1), (X + 2).", "main() -> (X) = (1), ((X) + (2)).", "main() -> ((((X = 1)))), X + ((2)).")
	wantSameCode(t, "main() -> 1 - 2 - 3.", "main() -> (1 - 2) - 3.", "main() -> ((1) - 2) - (3).")
	wantSameCode(t, "main() -> 1 + 2 * 3 == - 4.", "main() -> (1 + (2 * 3)) == (-(4)).", "main()->1+2*3==-4.")
	wantSameCode(t, "main() -> self() ! 1 ! 2.", "main() -> self() ! (1 ! 2).", "main()->(self())!((1)!(2)).")
	wantSameCode(t, "main() -> X = Y = 1, {X, Y}.", "main() -> X = (Y = 1), ({(X), (Y)}).", "main() -> Y = X = 1, {Y, X}.")
	wantSameCode(t, "main() -> case {1, a} of {X, _} -> X; - 1 -> 2 end.", "main()->(case({(1),(a)})of({(Y),(_)})->(Y);(-(1))->(2)end).", "main() -> case {1,a} of ({_X,(_)}) -> _X; (- 1) -> (2) end.")
	wantSameCode(t, "main() -> receive X -> X after 1 + 2 -> 3 end.", "main()->(receive((Z))->Z after((1)+2)->((3))end).", "main() -> receive X -> X\nafter % later\n1 + 2 -> 3 end.")
	wantSameCode(t, "f(X, _, Y) -> f(Y, X, Y). main() -> f(1, 2, 3).", "f(Y, _, X) -> (f((X), (Y), X)). main() -> (f(1, (2), 3)).")
}

// What joins something else, or another order of names, is another code.
func TestP19_2OtherCode(t *testing.T) {
	for _, pair := range [][2]string{
		{"main() -> 1 - 2 - 3.", "main() -> 1 - (2 - 3)."}, {"main() -> 1 + 2 * 3.", "main() -> (1 + 2) * 3."}, {"main() -> - 1 + 2.", "main() -> - (1 + 2)."}, {"main() -> 1 ! 2 ! 3.", "main() -> (1 ! 2) ! 3."},
		{"main() -> {A, B} = 1, A.", "main() -> {B, A} = 1, A."}, {"f(A, B) -> A. main() -> 1.", "f(B, A) -> A. main() -> 1."}, {"f(_, B) -> B. main() -> 1.", "f(B, _) -> B. main() -> 1."}, {"main() -> A = 1, A = 2.", "main() -> A = 1, B = 2."}, {"main() -> {A, A} = 1.", "main() -> {A, _} = 1."},
	} {
		if sameFuns(compiled(t, "one", pair[0]), compiled(t, "another", pair[1])) {
			t.Errorf("P19.1: %s and %s have the same code", pair[0], pair[1])
		}
	}
}

// Blanks, notes, and ( ) that join nothing else play no part.
func TestP19_2Brackets(t *testing.T) {
	m := newMaker(203)
	same, right := 0, 0
	for i := range 2500 {
		x := m.prog(1 + i%3)
		want, e := comp.Compile(x)
		for _, w := range []*writer{spare(), m.loose(0), m.loose(2)} {
			s := w.program(x)
			l, at, e2 := comp.Source(s)
			if e2 >= api.ErrLexLong && e2 <= api.ErrGramDeep {
				continue // too long, or too deep
			}
			same++
			if at != 0 || e2 != e || !sameFuns(l, want) {
				t.Errorf("P19.2: of %s: %s, %d, %d; its tree: %s, %d", brief(s), showFuns(l), at, e2, showFuns(want), e)
			}
		}
		if e == api.OK {
			right++
		}
	}
	if same < 7000 || right < 2200 {
		t.Errorf("only %d texts were taken, %d programs were right", same, right)
	}
}

// A function that is put behind all others changes none of theirs.
func TestP19_2Further(t *testing.T) {
	m := newMaker(204)
	right := 0
	for i := range 2500 {
		x := m.prog(1 + i%4)
		want, e := comp.Compile(x)
		params := m.params(m.Intn(4))
		m.funs = append(m.funs, tree(api.TFun, pick(m, "further", "f", "main", "zz"), params...))
		f := m.function(m.funs[len(m.funs)-1], 1+i%3)
		y := program(append(slices.Clone(x.L), f)...)
		l, e2 := comp.Compile(y)
		if e != api.OK || e2 != api.OK {
			continue
		}
		right++
		if len(l) != len(want)+1 || !sameFuns(l[:len(want)], want) {
			t.Errorf("P19.2: %s: %s; with %s behind: %s", show(x), showFuns(want), show(f), showFuns(l))
		}
		wantAsked(t, "P19.2: a further function", y)
	}
	if right < 1250 {
		t.Errorf("only %d were right", right)
	}
	s := "main() -> f(1), f(). f() -> main(). "
	for n := range api.MaxFuns - 3 {
		s += fmt.Sprintf("f%d(X) -> f%d(X). ", n, n)
	}
	want := "main/0(0): Push 1, Call 63/1, Pop, Tail 1/0; f/0(0): Tail 0/0"
	if got := showFuns(compiled(t, "64 functions", s+"f(_) -> f(2).")[:2]); got != want {
		t.Errorf("P19.1: %s; want %s", got, want)
	}
}
