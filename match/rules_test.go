package match_test

import (
	"math"
	"slices"
	"strings"
	"testing"
	"unsafe"

	"rookery/api"
	"rookery/match"
)

// scramble writes into all memory that x leads to, its spare room included.
func scramble(x *api.Term) {
	for i := range x.B[:cap(x.B)] {
		x.B[:cap(x.B)][i] ^= 0x55
	}
	room := x.L[:cap(x.L)]
	for i := range room {
		scramble(&room[i])
		room[i].Kind, room[i].N, room[i].S = 99, -7, "spoilt"
	}
}

func scrambleBinds(l []api.Bind) {
	room := l[:cap(l)]
	for i := range room {
		scramble(&room[i].T)
		room[i] = bind("spoilt", api.Term{Kind: 99})
	}
}

// roomy: x anew, with lists that have spare room in which something stands.
func roomy(x api.Term) api.Term {
	x.B = append(append(make([]byte, 0, len(x.B)+8), x.B...), "spare"...)[:len(x.B)]
	l := make([]api.Term, len(x.L), len(x.L)+2)
	for i, e := range x.L {
		l[i] = roomy(e)
	}
	x.L = append(l, api.Term{Kind: 55, S: "spare"})[:len(l)]
	return x
}

func roomyBinds(l []api.Bind) []api.Bind {
	out := make([]api.Bind, len(l), len(l)+70)
	for i, b := range l {
		out[i] = bind(b.Name, roomy(b.T))
	}
	room := out[:cap(out)]
	for i := len(l); i < len(room); i++ {
		room[i] = bind("Spare", integer(int64(i)))
	}
	return out
}

// spare: what stands in the spare room of x's lists, and of its parts'.
func spare(x api.Term) []api.Term {
	out := []api.Term{{B: x.B[len(x.B):cap(x.B)]}}
	out = append(out, x.L[len(x.L):cap(x.L)]...)
	for _, e := range x.L {
		out = append(out, spare(e)...)
	}
	return out
}

// unchanged: is x still what was made roomy, in its spare room too?
func unchanged(given, x api.Term) bool {
	return equal(given, x) && slices.EqualFunc(spare(given), spare(roomy(x)), equal)
}

func unchangedBinds(given, l []api.Bind) bool {
	if !equalBinds(given, l) || !equalBinds(given[:cap(given)], roomyBinds(l)[:cap(given)]) {
		return false
	}
	for i, b := range given {
		if !unchanged(b.T, l[i].T) {
			return false
		}
	}
	return true
}

func TestR4NothingIsChanged(t *testing.T) {
	m := newMaker(4)
	for i := range 3000 {
		x := m.right(4)
		p, known := m.pattern(x, 6+m.Intn(8)), m.known(x)
		switch m.Intn(8) {
		case 0:
			p = m.spoil(p)
		case 1:
			x = m.spoil(x)
		case 2:
			known = m.wrongBinds(known)
		}
		givenP, givenX, givenL := roomy(p), roomy(x), roomyBinds(known)
		match.Check(givenP)
		match.Vars(givenP)
		match.Match(givenP, givenX, givenL)
		match.Fill(givenP, givenL)
		if !unchanged(givenP, p) || !unchanged(givenX, x) || !unchangedBinds(givenL, known) {
			t.Errorf("R4: what was handed in was changed (%d)", i)
		}
	}
}

// Answers share no memory with what was handed in: spoiling that leaves them.
func TestR4AnswersApart(t *testing.T) {
	m := newMaker(5)
	for i := range 3000 {
		x := m.right(4)
		p, known := m.pattern(x, 6+m.Intn(8)), m.known(x)
		wantL, ok, e := askedMatch(p, x, known)
		if !ok || e != api.OK {
			continue
		}
		givenP, givenX, givenL := roomy(p), roomy(x), roomyBinds(known)
		vars := match.Vars(givenP)
		l, _, _ := match.Match(givenP, givenX, givenL)
		givenAll := roomyBinds(wantL)
		full, _ := match.Fill(givenP, givenAll)
		wantFull, _ := askedFill(roomy(p), roomyBinds(wantL))
		scramble(&givenP)
		scramble(&givenX)
		scrambleBinds(givenL)
		scrambleBinds(givenAll)
		if !equalBinds(l, wantL) || !equal(full, wantFull) || !slices.Equal(vars, askedVars(p)) {
			t.Errorf("R4: an answer shares memory with what was handed in (%d)", i)
		}
	}
}

// Spoiling an answer leaves what was handed in, and other answers.
func TestR4AnswersSpoilt(t *testing.T) {
	x := tuple(list(raw("abc"), integer(1)), raw("abc"), list(raw("abc"), integer(1)), tuple(list(list())))
	p := tuple(v("A"), v("B"), v("A"), tuple(v("C")))
	known := binds(bind("K", list(raw("k"))), bind("B", raw("abc")))
	givenP, givenX, givenL := roomy(p), roomy(x), roomyBinds(known)
	want, _, _ := askedMatch(p, x, known)
	first, _, _ := match.Match(givenP, givenX, givenL)
	second, _, _ := match.Match(givenP, givenX, givenL)
	for i := range first {
		scramble(&first[i].T)
		if !equalBinds(first[i+1:], want[i+1:]) {
			t.Errorf("R4: the bind %d of one answer shares memory with one behind it", i)
		}
	}
	scrambleBinds(first)
	if !equalBinds(second, want) || !unchanged(givenP, p) || !unchanged(givenX, x) || !unchangedBinds(givenL, known) {
		t.Error("R4: spoiling an answer of Match spoils something else")
	}
	one, _ := match.Fill(givenP, second)
	two, _ := match.Fill(givenP, second)
	scramble(&one.L[0])
	if !equal(one.L[2], x.L[2]) {
		t.Error("R4: what stands twice for one name shares memory in what Fill answers")
	}
	scramble(&one)
	if !equal(two, x) || !equalBinds(second, want) || !unchanged(givenP, p) {
		t.Error("R4: spoiling an answer of Fill spoils something else")
	}
	names := match.Vars(p)
	for i := range names {
		names[i] = "spoilt"
	}
	if again := match.Vars(p); !slices.Equal(again, []string{"A", "B", "C"}) {
		t.Errorf("R4: spoiling an answer of Vars spoils the next: %q", again)
	}
}

func within(inner, outer string) bool {
	a, b := uintptr(unsafe.Pointer(unsafe.StringData(inner))), uintptr(unsafe.Pointer(unsafe.StringData(outer)))
	return b <= a && a < b+uintptr(len(outer))
}

func TestR4NamesAreNotKept(t *testing.T) {
	long := strings.Clone("Name and much behind it")
	p, known := v(long[:4]), binds(bind(long[:1], integer(1)))
	if l := match.Vars(p); len(l) != 1 || within(l[0], long) {
		t.Error("R4: Vars answers a piece of a text that was handed in")
	}
	if l, _, _ := match.Match(p, integer(2), known); len(l) != 2 || within(l[0].Name, long) || within(l[1].Name, long) {
		t.Error("R4: Match answers a piece of a text that was handed in")
	}
}

// R3: a nil list and an empty one are the same.
func TestR3Lists(t *testing.T) {
	empty := func(x api.Term) api.Term {
		x.B, x.L = []byte{}, []api.Term{}
		return x
	}
	for _, x := range []api.Term{integer(1), name("a"), tuple(), list(), raw(""), pid(1, 1, 1), cx(1, 1)} {
		wantFits(t, "R3: the pattern's", empty(x), x, nil, nil)
		wantFits(t, "R3: the term's", x, empty(x), nil, nil)
		wantFits(t, "R3: the bind's", v("X"), empty(x), binds(bind("X", x)), binds(bind("X", x)))
		wantFits(t, "R3: binds", tuple(empty(v("X")), empty(anything())), tuple(x, x), []api.Bind{}, binds(bind("X", x)))
		wantFill(t, "R3: binds", empty(x), []api.Bind{}, x, api.OK)
	}
}

// R6: the same arguments, the same answers, whatever was asked in between.
func TestR6TheSameAgain(t *testing.T) {
	m := newMaker(6)
	for i := range 500 {
		x := m.right(4)
		p, known := m.pattern(x, 6+m.Intn(8)), append(m.known(x), countedBinds(0, m.Intn(40))...)
		vars := match.Vars(p)
		l, ok, e := match.Match(p, x, known)
		full, e2 := match.Fill(p, known)
		for range 5 {
			match.Match(m.pattern(x, 8), x, known)
			match.Fill(m.pattern(x, 8), known)
			l3, ok3, e3 := match.Match(roomy(p), roomy(x), roomyBinds(known))
			full4, e4 := match.Fill(roomy(p), roomyBinds(known))
			if !equalBinds(l, l3) || ok != ok3 || e != e3 || !equal(full, full4) || e2 != e4 || !slices.Equal(vars, match.Vars(p)) {
				t.Errorf("R6: the same was asked again, and something else was answered (%d)", i)
			}
		}
	}
}

// P1: what is great without end, or holds itself, is no harm.
func TestP1Anything(t *testing.T) {
	endless := list(api.Term{})
	endless.L[0] = endless
	doubled, broad := v("X"), integer(1)
	for range 64 {
		doubled = tuple(doubled, doubled)
	}
	for range 5 {
		broad = list(many(256, broad)...)
	}
	for e, x := range map[api.Errno]api.Term{
		api.ErrTermDeep: endless, api.ErrTermSize: broad, api.ErrTermKind: {Kind: math.MinInt, L: many(300, endless)},
		api.ErrTermField: {Kind: api.KVar, S: "X", L: many(2, endless)}, api.ErrTermWide: list(many(1<<20, doubled)...), api.ErrMatchVar: tuple(v(strings.Repeat("X", 1<<20)), endless),
	} {
		wantCheck(t, "P1: anything", x, e)
		wantVars(t, "P1: anything", x)
		wantRefused(t, "P1: anything as a pattern", x, x, binds(bind("X", x)), e)
		wantNoFill(t, "P1: anything as a pattern", x, binds(bind("X", x)), e)
		wantRefused(t, "P1: anything in binds", anything(), integer(1), binds(bind("X", x)), api.ErrMatchBind)
		wantNoFill(t, "P1: anything in binds", v("X"), binds(bind("X", x)), api.ErrMatchBind)
	}
	wantRefused(t, "P1: a term without end", anything(), endless, nil, api.ErrTermDeep)
	wantRefused(t, "P1: a term of many parts", anything(), broad, nil, api.ErrTermSize)
	wantCheck(t, "P1: parts without end", doubled, api.ErrTermDeep)
	wantCheck(t, "P1: depth without end", nested(1<<16-1, v("X")), api.ErrTermDeep)
	wantRefused(t, "P1: many binds", anything(), integer(1), make([]api.Bind, 1<<20), api.ErrMatchBind)
	if match.Name(strings.Repeat("N", 1<<20)) {
		t.Error("P1: a name of 2^20 bytes")
	}
}
