package match_test

import (
	"fmt"
	"slices"
	"strings"
	"testing"

	"rookery/api"
)

func TestP5_3Examples(t *testing.T) {
	wantFill(t, "{X,a}, X is 1", tuple(v("X"), name("a")), binds(bind("X", integer(1))), tuple(integer(1), name("a")), api.OK)
}

func TestP5_3EveryKind(t *testing.T) {
	for i, x := range samples() {
		what := fmt.Sprint("term ", i)
		wantFill(t, what, x, nil, x, api.OK)
		wantFill(t, what+", another known", x, binds(bind("Z", integer(1))), x, api.OK)
		wantFill(t, what+" for X", v("X"), binds(bind("X", x)), x, api.OK)
		wantFill(t, what+" for X, another known ahead", v("X"), binds(bind("Z", integer(1)), bind("X", x)), x, api.OK)
		wantFill(t, what+" for X, another known behind", v("X"), binds(bind("X", x), bind("Z", integer(1))), x, api.OK)
		want := tuple(x, list(integer(7), x), x)
		if askedCheck(want, 8) == api.OK {
			wantFill(t, what+" for X three times", tuple(v("X"), list(v("Y"), v("X")), v("X")), binds(bind("Y", integer(7)), bind("X", x)), want, api.OK)
		}
	}
	// Atoms and bytes that read like a name are none.
	wantFill(t, "no names", tuple(name("x"), raw("X"), v("X")), binds(bind("X", integer(1))), tuple(name("x"), raw("X"), integer(1)), api.OK)
	wantFill(t, "unlike names", list(v("X"), v("X1"), v("_X"), v("__")), binds(bind("__", integer(4)), bind("X", integer(1)), bind("X1", integer(2)), bind("_X", integer(3))), list(numbers(1, 4)...), api.OK)
	_, parts := counted(0, 64)
	wantFill(t, "64 names", list(parts...), countedBinds(0, 64), list(numbers(0, 64)...), api.OK)
}

func TestP5_3Free(t *testing.T) {
	x := binds(bind("X", integer(1)))
	for what, p := range map[string]api.Term{
		"KAny":               anything(),
		"KAny within":        tuple(v("X"), list(integer(1), anything())),
		"KAny first":         tuple(anything(), v("X")),
		"Y":                  v("Y"),
		"Y behind":           tuple(v("X"), v("Y")),
		"Y ahead":            tuple(v("Y"), v("X")),
		"Y deep":             nested(22, tuple(v("Y"))),
		"Y and KAny":         list(v("Y"), anything()),
		"a longer name":      v("XX"),
		"a name with a _":    list(v("X"), v("X_")),
		"the last of many":   list(append(many(255, v("X")), v("Z"))...),
		"KAny, last of many": list(append(many(255, v("X")), anything())...),
	} {
		wantNoFill(t, what, p, x, api.ErrMatchFree)
		if p.Kind != api.KAny {
			wantNoFill(t, what+", nothing known", p, nil, api.ErrMatchFree)
		}
	}
	// What is free is told ahead of what would be wrong with the whole.
	great := binds(bind("X", raw(strings.Repeat("b", 4000))), bind("Deep", nested(23, integer(1))))
	wantNoFill(t, "free ahead of great", tuple(v("X"), v("X"), anything()), great, api.ErrMatchFree)
	wantNoFill(t, "free ahead of great", tuple(v("X"), v("X"), v("Y")), great, api.ErrMatchFree)
	wantNoFill(t, "free ahead of deep", tuple(list(v("Deep")), v("Y")), great, api.ErrMatchFree)
}

// R1: the pattern's error, then the binds', then what is free.
func TestP5_3OrderOfErrors(t *testing.T) {
	bad := badBinds()
	for e, wrong := range faults() {
		p := tuple(anything(), v("Free"), wrong)
		wantNoFill(t, "pattern", p, nil, e)
		for what, known := range bad {
			wantNoFill(t, "pattern and binds: "+what, p, known, e)
		}
	}
	for what, known := range bad {
		wantNoFill(t, "binds: "+what, integer(1), known, api.ErrMatchBind)
		wantNoFill(t, "binds: "+what, v("X"), known, api.ErrMatchBind)
		wantNoFill(t, "binds and what is free: "+what, tuple(anything(), v("Free")), known, api.ErrMatchBind)
	}
	wantNoFill(t, "the zero Term", api.Term{}, nil, api.ErrTermKind)
}

// What is made may be too deep or too great, although no part of it was.
func TestP5_3TooDeep(t *testing.T) {
	for n := range 24 {
		x := nested(23-n, integer(1))
		wantFill(t, fmt.Sprint("depth 24, in lists: ", n), nested(n, v("X")), binds(bind("X", x)), nested(23, integer(1)), api.OK)
		if n > 0 {
			wantNoFill(t, fmt.Sprint("depth 25, in lists: ", n), nested(n, v("X")), binds(bind("X", list(x))), api.ErrTermDeep)
			wantNoFill(t, fmt.Sprint("depth 25, behind another, in lists: ", n), tuple(integer(1), nested(n-1, v("X"))), binds(bind("X", list(x))), api.ErrTermDeep)
		}
	}
}

func TestP5_3TooGreat(t *testing.T) {
	for _, n := range []int{0, 1, 2, 10, 2047, 2048} {
		x := binds(bind("X", raw(strings.Repeat("b", n))))
		fit := 4095 / (n + 1)
		if fit > 256 {
			continue
		}
		wantFill(t, fmt.Sprint("as many as can be, bytes: ", n), list(many(fit, v("X"))...), x, list(many(fit, x[0].T)...), api.OK)
		wantNoFill(t, fmt.Sprint("one more, bytes: ", n), list(many(fit+1, v("X"))...), x, api.ErrTermSize)
	}
	for _, n := range []int{1, 15, 31, 63, 255} {
		x := binds(bind("X", list(many(n-1, integer(1))...)))
		left := 4096 - 1 - 15*n
		if left < 1 || left > 256*15 {
			continue
		}
		p := tuple(append(many(15, v("X")), raw(strings.Repeat("b", left-1)))...)
		want := tuple(append(many(15, x[0].T), raw(strings.Repeat("b", left-1)))...)
		wantFill(t, fmt.Sprint("size 4096, parts: ", n), p, x, want, api.OK)
		p.L[15] = raw(strings.Repeat("b", left))
		wantNoFill(t, fmt.Sprint("size 4097, parts: ", n), p, x, api.ErrTermSize)
	}
	whole := ofSize(4000, 96, integer(1))
	wantFill(t, "size 4096 in one name", v("X"), binds(bind("X", whole)), whole, api.OK)
	wantNoFill(t, "size 4096 in one name, in a list", list(v("X")), binds(bind("X", whole)), api.ErrTermSize)
	wantNoFill(t, "2^24 parts", ofSize(4096, 0, v("X")), binds(bind("X", whole)), api.ErrTermSize)
}

// R1: which of both is told hangs on what stands ahead in the whole.
func TestP5_3DeepOrGreat(t *testing.T) {
	known := binds(bind("Deep", nested(23, integer(1))), bind("Great", raw(strings.Repeat("b", 4090))), bind("Wide", list(many(256, integer(1))...)))
	wantNoFill(t, "deep first", tuple(v("Deep"), v("Great")), known, api.ErrTermDeep)
	wantNoFill(t, "great first", tuple(v("Great"), v("Great"), list(v("Deep"))), known, api.ErrTermSize)
	wantNoFill(t, "great just ahead of deep", tuple(v("Great"), nested(1, v("Deep"))), known, api.ErrTermSize)
	wantNoFill(t, "both at one part", tuple(raw(strings.Repeat("b", 4071)), list(v("Deep"))), known, api.ErrTermDeep)
	// No list gets wider by what stands for a name.
	wide := list(many(256, v("Wide"))[:15]...)
	wantFill(t, "256 elements in each", wide, known, list(many(15, known[2].T)...), api.OK)
	wantFill(t, "256 names", list(many(256, v("X"))...), binds(bind("X", list(integer(1)))), list(many(256, list(integer(1)))...), api.OK)
}

// The order of binds, and those that no name asks for, make no difference.
func TestP5_3OrderOfBinds(t *testing.T) {
	p := tuple(v("A"), list(v("B"), v("C")), v("A"))
	known := binds(bind("A", integer(1)), bind("B", name("b")), bind("C", list()), bind("D", raw("d")))
	want := tuple(integer(1), list(name("b"), list()), integer(1))
	for range 4 {
		known = append(slices.Clone(known[1:]), known[0])
		wantFill(t, fmt.Sprint("binds ", namesOf(known)), p, known, want, api.OK)
	}
}
