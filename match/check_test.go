package match_test

import (
	"fmt"
	"math"
	"slices"
	"strings"
	"testing"

	"rookery/api"
	"rookery/match"
	"rookery/term"
)

// wantName asks for a name by Name, and by Check of a part that has it, alone
// and deep within others.
func wantName(t *testing.T, s string, want bool) {
	t.Helper()
	if got := match.Name(s); got != want {
		t.Errorf("P5.1: Name(%q): %v", s, got)
	}
	e := api.ErrMatchVar
	if want {
		e = api.OK
	}
	wantCheck(t, fmt.Sprintf("name %q", s), v(s), e)
	wantCheck(t, fmt.Sprintf("name %q within", s), nested(20, tuple(integer(1), v(s))), e)
}

func TestP5_1Names(t *testing.T) {
	const first = great + "_"
	for c := range 256 {
		s := string([]byte{byte(c)})
		wantName(t, s, strings.Contains(great, s))
		wantName(t, s+"a", strings.Contains(first, s))
		wantName(t, s+"9", strings.Contains(first, s))
		wantName(t, s+"_", strings.Contains(first, s))
		wantName(t, "A"+s, strings.Contains(more, s))
		wantName(t, "_"+s, strings.Contains(more, s))
		wantName(t, "B"+s+"a", strings.Contains(more, s))
		wantName(t, s+strings.Repeat("a", 31), strings.Contains(first, s))
		wantName(t, strings.Repeat("A", 31)+s, strings.Contains(more, s))
		wantName(t, s+strings.Repeat("A", 32), false)
	}
}

func TestP5_1NameLengths(t *testing.T) {
	for n, want := range map[int]bool{0: false, 1: true, 2: true, 31: true, 32: true, 33: false, 64: false, 256 + 1: false, 1 << 16: false, 1<<16 + 1: false} {
		wantName(t, strings.Repeat("Q", n), want)
		wantName(t, strings.Repeat("_", n), want && n > 1)
	}
	// 32 runes that are more bytes, and 17 runes that are 32.
	wantName(t, "A"+strings.Repeat("é", 31), false)
	wantName(t, "AB"+strings.Repeat("é", 15), false)
	for _, s := range []string{"x", "aB", "9A", "0", "É", "A b", "A\x00", " A", "A ", "A\n"} {
		wantName(t, s, false)
	}
}

// What is right is so as a pattern too, and so is it with names and KAny in it.
func TestP5_1Right(t *testing.T) {
	for i, x := range samples() {
		wantCheck(t, fmt.Sprint("right term ", i), x, api.OK)
		among := tuple(v("X"), x, anything())
		wantCheck(t, fmt.Sprint("right term among others ", i), among, askedCheck(among, api.KAny))
	}
	for _, p := range []api.Term{v("X"), v("_a"), v("__"), v("_0"), v(strings.Repeat("Z", 32)), anything(), tuple(v("X"), v("X")), list(anything(), anything()), tuple(list(tuple(v("A")), anything()), v("B")), nested(23, v("X")), nested(23, anything())} {
		wantCheck(t, "a pattern", p, api.OK)
	}
}

// What layer 2 refuses is refused here, and for the same, but for the two kinds.
func TestP5_1AsTermCheck(t *testing.T) {
	wrong := []api.Term{
		{}, {Kind: 11}, {Kind: -1}, {Kind: math.MinInt}, {Kind: math.MaxInt}, {Kind: 1<<32 + api.KVar, S: "X"}, {Kind: 1<<32 + api.KAny}, {Kind: 256 + api.KAny}, {L: many(300, v("x"))}, {Kind: 11, S: "X", B: []byte("x")},
		{Kind: api.KInt, S: "X"}, {Kind: api.KInt, L: []api.Term{v("X")}}, {Kind: api.KCx, N: 1}, {Kind: api.KAtom, S: "A", B: []byte{0}}, {Kind: api.KPid, Z: 1}, {Kind: api.KTuple, S: "X"}, {Kind: api.KList, B: []byte{1}, L: many(300, v("X"))}, {Kind: api.KBytes, L: []api.Term{{}}}, {Kind: api.KTuple, N: 1, L: []api.Term{v("x")}},
		integer(api.MaxInt + 1), integer(api.MinInt - 1), cx(math.NaN(), 0), cx(0, math.Copysign(0, -1)), name(""), name("X"), name("_a"), name(strings.Repeat("a", 33)), ref(0, 1, 1), ref(65, 1, 1), pid(1, 0, 1), pid(1, 1, 0),
		list(many(257, integer(1))...), tuple(many(257, integer(1))...), list(many(5000, integer(1))...),
		raw(strings.Repeat("b", 4096)), ofSize(4097, 0, integer(1)), ofSize(4000, 97, integer(1)), nested(24, integer(1)), nested(24, tuple()), nested(1<<16-1, integer(1)),
	}
	for i, x := range append(wrong, samples()...) {
		wantCheck(t, fmt.Sprint("term ", i), x, term.Check(x))
		wantCheck(t, fmt.Sprint("term within ", i), tuple(integer(1), list(x)), term.Check(tuple(integer(1), list(x))))
	}
}

// fields: one who fills a field, each with what some kind could hold there.
func fields() map[string][]func(*api.Term) {
	return map[string][]func(*api.Term){
		"N":  {func(x *api.Term) { x.N = 1 }, func(x *api.Term) { x.N = math.MinInt64 }},
		"Z":  {func(x *api.Term) { x.Z = 1 }, func(x *api.Term) { x.Z = 1i }, func(x *api.Term) { x.Z = complex(math.NaN(), 0) }, func(x *api.Term) { x.Z = complex(0, math.SmallestNonzeroFloat64) }},
		"S":  {func(x *api.Term) { x.S = "X" }, func(x *api.Term) { x.S = "_" }, func(x *api.Term) { x.S = "a" }, func(x *api.Term) { x.S = "\x00" }},
		"Id": {func(x *api.Term) { x.Id = api.Id{Node: 1, Boot: 1, N: 1} }, func(x *api.Term) { x.Id.Node = -1 }, func(x *api.Term) { x.Id.Boot = 1 }, func(x *api.Term) { x.Id.N = 1 }},
		"B":  {func(x *api.Term) { x.B = []byte{0} }, func(x *api.Term) { x.B = make([]byte, 4000) }},
		"L":  {func(x *api.Term) { x.L = []api.Term{integer(1)} }, func(x *api.Term) { x.L = []api.Term{{}} }, func(x *api.Term) { x.L = many(300, v("X")) }},
	}
}

func TestP5_1Fields(t *testing.T) {
	for field, fills := range fields() {
		for i, fill := range fills {
			for _, p := range []api.Term{v("X"), v("x"), v(""), anything()} {
				if field == "S" && p.Kind == api.KVar {
					continue
				}
				fill(&p)
				what := fmt.Sprintf("kind %d, %q, with %s (%d)", p.Kind, p.S, field, i)
				wantCheck(t, what, p, api.ErrTermField)
				wantCheck(t, what+" within", list(v("X"), tuple(anything(), p), v("x")), api.ErrTermField)
			}
		}
	}
}

// What is equal to 0, or empty, is zero: -0 as well, and a list without
// elements that has spare room.
func TestP5_1ZeroFields(t *testing.T) {
	minus := math.Copysign(0, -1)
	for _, p := range []api.Term{v("X"), anything()} {
		p.Z, p.B, p.L = complex(minus, minus), []byte{1, 2}[:0], []api.Term{{}}[:0]
		wantCheck(t, "R3: empty fields", p, api.OK)
		wantCheck(t, "R3: empty fields within", list(p), api.OK)
	}
}

func TestP5_1Limits(t *testing.T) {
	for _, x := range []api.Term{v("X"), anything()} {
		wantCheck(t, "depth 24", nested(23, x), api.OK)
		wantCheck(t, "depth 25", nested(24, x), api.ErrTermDeep)
		wantCheck(t, "depth 25 at the side", tuple(x, nested(23, x)), api.ErrTermDeep)
		wantCheck(t, "depth 24 behind depth 24", tuple(nested(22, x), nested(22, x)), api.OK)
		for _, n := range []int{0, 1, 100, 4000} {
			wantCheck(t, fmt.Sprint("size 4096, bytes: ", n), ofSize(4096-n, n, x), api.OK)
			wantCheck(t, fmt.Sprint("size 4097, a part more, bytes: ", n), ofSize(4097-n, n, x), api.ErrTermSize)
			wantCheck(t, fmt.Sprint("size 4097, a byte more, bytes: ", n+1), ofSize(4096-n, n+1, x), api.ErrTermSize)
		}
		for _, kind := range []int{api.KTuple, api.KList} {
			wantCheck(t, "256 elements", api.Term{Kind: kind, L: many(256, x)}, api.OK)
			wantCheck(t, "257 elements", api.Term{Kind: kind, L: many(257, x)}, api.ErrTermWide)
			wantCheck(t, "257 elements within", tuple(x, api.Term{Kind: kind, L: many(257, x)}), api.ErrTermWide)
		}
	}
}

// R1: of several things that are wrong with one part, the first by the chapter.
func TestP5_1OrderInOnePart(t *testing.T) {
	over := make([]byte, 5000)
	for _, c := range []struct {
		what string
		p    api.Term
		e    api.Errno
	}{
		{"deep, no name", nested(24, v("x")), api.ErrTermDeep},
		{"deep, great, a field", nested(24, api.Term{Kind: api.KVar, S: "x", B: over}), api.ErrTermDeep},
		{"deep, a field", nested(24, api.Term{Kind: api.KAny, S: "x"}), api.ErrTermDeep},
		{"great, no name", api.Term{Kind: api.KVar, S: "x", B: over}, api.ErrTermSize},
		{"great, a field", api.Term{Kind: api.KAny, B: over}, api.ErrTermSize},
		{"great by one, a field", api.Term{Kind: api.KAny, B: over[:4096]}, api.ErrTermSize},
		{"not yet great, a field", api.Term{Kind: api.KAny, B: over[:4095]}, api.ErrTermField},
		{"great, no kind", api.Term{Kind: 11, B: over}, api.ErrTermSize},
		{"a field, no name", api.Term{Kind: api.KVar, S: "x", N: 1}, api.ErrTermField},
		{"a field, wide", api.Term{Kind: api.KVar, S: "X", L: many(257, v("x"))}, api.ErrTermField},
		{"no name, no elements", api.Term{Kind: api.KVar, S: "_"}, api.ErrMatchVar},
		{"wide, elements wrong", tuple(many(257, v("x"))...), api.ErrTermWide},
	} {
		wantCheck(t, c.what, c.p, c.e)
		wantVars(t, c.what, list(v("A"), c.p))
	}
}

// faults: of each error one part of a pattern that has it.
func faults() map[api.Errno]api.Term {
	return map[api.Errno]api.Term{
		api.ErrTermDeep:  nested(23, v("X")),
		api.ErrTermSize:  raw(strings.Repeat("b", 4096)),
		api.ErrTermKind:  {Kind: 11, S: "X"},
		api.ErrTermField: {Kind: api.KAny, S: "X"},
		api.ErrTermValue: name("X"),
		api.ErrTermWide:  list(many(257, v("X"))...),
		api.ErrMatchVar:  v("x"),
	}
}

// R1: of things that are wrong with unlike parts, the one that stands first.
func TestP5_1OrderOfParts(t *testing.T) {
	for e, first := range faults() {
		for _, second := range faults() {
			wantCheck(t, "first of two", tuple(v("X"), first, second), e)
			wantCheck(t, "first of two, deeper", tuple(list(anything(), first), second), e)
			wantCheck(t, "first of two, the second deeper", tuple(v("X"), first, nested(9, second)), e)
			wantVars(t, "first of two", tuple(v("X"), first, second))
		}
	}
	late := ofSize(5000, 10, v("X"))
	late.L[0] = v("x")
	wantCheck(t, "no name ahead of the size", late, api.ErrMatchVar)
	last := ofSize(4096, 0, v("X"))
	last.L = append(last.L, v("x"))
	wantCheck(t, "the part that is too much", last, api.ErrTermSize)
	wantCheck(t, "no name ahead of depth", tuple(v("_"), nested(30, v("X"))), api.ErrMatchVar)
	wantCheck(t, "no name behind depth", tuple(nested(30, v("X")), v("_")), api.ErrTermDeep)
}

func TestP5_1Vars(t *testing.T) {
	wantVars(t, "no names", tuple(integer(1), anything(), name("x"), raw("X"), list()))
	wantVars(t, "one", v("X"), "X")
	wantVars(t, "KAny", anything())
	wantVars(t, "twice", tuple(v("X"), v("X")), "X")
	wantVars(t, "first parts", list(v("B"), v("A"), v("B"), v("C"), v("A")), "B", "A", "C")
	wantVars(t, "parts within parts", tuple(list(tuple(v("Z"), v("M"))), v("A"), list(v("M"), v("B"), list(v("_x"))), v("Z")), "Z", "M", "A", "B", "_x")
	wantVars(t, "deep", nested(23, v("Deep")), "Deep")
	wantVars(t, "names that begin alike", list(v("X"), v("X1"), v("X_"), v("X1"), v("XX")), "X", "X1", "X_", "XX")
	long := strings.Repeat("N", 32)
	wantVars(t, "a long name", list(v(long), v(long[1:])), long, long[1:])
	names, parts := counted(0, 3000)
	p := list()
	for l := range slices.Chunk(parts, 250) {
		p.L = append(p.L, tuple(l...), tuple(l[0]))
	}
	wantVars(t, "3000 names", p, names...)
}

func TestP5_1VarsRefused(t *testing.T) {
	for e, wrong := range faults() {
		wantVars(t, fmt.Sprint("refused for ", e), list(v("X"), v("Y"), wrong))
		wantVars(t, fmt.Sprint("refused for ", e), list(wrong, v("X")))
	}
	wantVars(t, "the zero Term", api.Term{})
	wantVars(t, "no name", v("x"))
	wantVars(t, "257 names", list(many(257, v("X"))...))
	wantVars(t, "depth 25", nested(24, v("X")))
}
