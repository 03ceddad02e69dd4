package term_test

import (
	"fmt"
	"math"
	"slices"
	"strings"
	"testing"

	"rookery/api"
	"rookery/term"
)

func wantCheck(t *testing.T, what string, x api.Term, e api.Errno) {
	t.Helper()
	if got := term.Check(x); got != e {
		t.Errorf("P2.2: %s: Check: %d, not %d", what, got, e)
	}
}

func TestP2_2Examples(t *testing.T) {
	wantCheck(t, "{1,a}", term.Tuple(term.Int(1), term.Atom("a")), api.OK)
	wantCheck(t, "Atom(A)", term.Atom("A"), api.ErrTermValue)
	wantCheck(t, "the zero Term", api.Term{}, api.ErrTermKind)
	wantCheck(t, "an int with an S", api.Term{Kind: api.KInt, S: "x"}, api.ErrTermField)
}

func TestP2_2Right(t *testing.T) {
	for i, x := range inOrder() {
		wantCheck(t, fmt.Sprint("right term ", i), x, api.OK)
	}
	wantCheck(t, "all of them", raw(api.KList, inOrder()...), api.OK)
}

func TestP2_2Kinds(t *testing.T) {
	for _, kind := range []int{math.MinInt, -8, -1, 0, api.KVar, api.KAny, 11, 256 + 1, 1 << 32, 1<<32 + 1, math.MaxInt} {
		for _, x := range append(inOrder(), api.Term{}, api.Term{S: "X"}) {
			x.Kind = kind
			wantCheck(t, fmt.Sprint("kind ", kind), x, api.ErrTermKind)
			wantCheck(t, fmt.Sprint("kind within ", kind), raw(api.KTuple, term.Int(1), x), api.ErrTermKind)
		}
	}
}

// Each field that is not a kind's, alone and filled with what another kind
// could hold there.
func TestP2_2Fields(t *testing.T) {
	one := map[int]api.Term{
		api.KInt: term.Int(1), api.KCx: cx(1, 1), api.KAtom: term.Atom("a"), api.KRef: term.Ref(id(1, 1, 1)), api.KPid: term.Pid(id(1, 1, 1)),
		api.KTuple: raw(api.KTuple, term.Int(1)), api.KList: raw(api.KList, term.Int(1)), api.KBytes: term.Bytes([]byte{1}),
	}
	fill := map[string][]func(*api.Term){
		"N": {func(x *api.Term) { x.N = 1 }, func(x *api.Term) { x.N = -1 }, func(x *api.Term) { x.N = math.MinInt64 }},
		"Z": {func(x *api.Term) { x.Z = 1 }, func(x *api.Term) { x.Z = 1i }, func(x *api.Term) { x.Z = complex(math.NaN(), 0) },
			func(x *api.Term) { x.Z = complex(0, math.NaN()) }, func(x *api.Term) { x.Z = complex(math.Inf(1), 0) }, func(x *api.Term) { x.Z = complex(0, math.SmallestNonzeroFloat64) }},
		"S":  {func(x *api.Term) { x.S = "a" }, func(x *api.Term) { x.S = "\x00" }},
		"Id": {func(x *api.Term) { x.Id = id(1, 1, 1) }, func(x *api.Term) { x.Id.Node = -1 }, func(x *api.Term) { x.Id.Boot = 1 }, func(x *api.Term) { x.Id.N = 1 }},
		"B":  {func(x *api.Term) { x.B = []byte{0} }, func(x *api.Term) { x.B = make([]byte, 4000) }},
		"L":  {func(x *api.Term) { x.L = []api.Term{term.Int(1)} }, func(x *api.Term) { x.L = []api.Term{{}} }, func(x *api.Term) { x.L = many(300, term.Int(1)) }},
	}
	named := map[int]string{api.KInt: "N", api.KCx: "Z", api.KAtom: "S", api.KRef: "Id", api.KPid: "Id", api.KTuple: "L", api.KList: "L", api.KBytes: "B"}
	for kind, good := range one {
		for field, fills := range fill {
			for i, f := range fills {
				if field == named[kind] {
					continue
				}
				x := good
				f(&x)
				what := fmt.Sprintf("kind %d with %s (%d)", kind, field, i)
				wantCheck(t, what, x, api.ErrTermField)
				wantCheck(t, what+" within", raw(api.KList, good, x), api.ErrTermField)
			}
		}
	}
}

// What is equal to 0, or empty, is zero: -0 as well, and a list without
// elements that has spare room.
func TestP2_2ZeroFields(t *testing.T) {
	for i, x := range inOrder() {
		if x.Kind != api.KCx {
			x.Z = complex(minusZero, minusZero)
		}
		if len(x.B) == 0 {
			x.B = []byte{1, 2}[:0]
		}
		if len(x.L) == 0 {
			x.L = []api.Term{{}}[:0]
		}
		wantCheck(t, fmt.Sprint("R3: right term ", i), x, api.OK)
	}
}

func TestP2_2Numbers(t *testing.T) {
	for _, n := range []int64{api.MinInt, api.MaxInt, 0} {
		wantCheck(t, fmt.Sprint(n), term.Int(n), api.OK)
	}
	for _, n := range []int64{api.MinInt - 1, api.MaxInt + 1, math.MinInt64, math.MaxInt64} {
		wantCheck(t, fmt.Sprint(n), term.Int(n), api.ErrTermValue)
	}
	for _, bad := range []float64{math.NaN(), math.Inf(1), math.Inf(-1), minusZero} {
		for _, z := range []api.Term{cx(bad, 0), cx(0, bad), cx(bad, 1), cx(1, bad), cx(bad, bad)} {
			wantCheck(t, fmt.Sprint(z.Z), z, api.ErrTermValue)
		}
	}
}

func TestP2_2AtomNames(t *testing.T) {
	const first = "abcdefghijklmnopqrstuvwxyz"
	const others = first + "ABCDEFGHIJKLMNOPQRSTUVWXYZ0123456789_"
	for c := range 256 {
		s := string([]byte{byte(c)})
		for _, a := range []struct {
			name string
			ok   bool
		}{
			{s, strings.Contains(first, s)},
			{s + "a", strings.Contains(first, s)},
			{"a" + s, strings.Contains(others, s)},
			{"b" + s + "a", strings.Contains(others, s)},
			{strings.Repeat("a", 31) + s, strings.Contains(others, s)},
			{s + strings.Repeat("a", 32), false},
		} {
			e := api.ErrTermValue
			if a.ok {
				e = api.OK
			}
			wantCheck(t, fmt.Sprintf("atom %q", a.name), term.Atom(a.name), e)
		}
	}
	for n, e := range map[int]api.Errno{0: api.ErrTermValue, 1: api.OK, 2: api.OK, 31: api.OK, 32: api.OK, 33: api.ErrTermValue, 64: api.ErrTermValue, 1 << 16: api.ErrTermValue} {
		wantCheck(t, fmt.Sprint("atom of bytes: ", n), term.Atom(strings.Repeat("q", n)), e)
	}
	// 32 runes that are more bytes, and 16 runes that are 32.
	wantCheck(t, "atom of runes", term.Atom("a"+strings.Repeat("é", 31)), api.ErrTermValue)
	wantCheck(t, "atom of runes", term.Atom("a"+strings.Repeat("é", 15)), api.ErrTermValue)
}

func TestP2_2Ids(t *testing.T) {
	for i, e := range map[api.Id]api.Errno{
		id(1, 1, 1): api.OK, id(64, 1, 1): api.OK, id(2, math.MaxUint32, math.MaxUint64): api.OK,
		id(0, 1, 1): api.ErrTermValue, id(65, 1, 1): api.ErrTermValue, id(-1, 1, 1): api.ErrTermValue, id(math.MinInt, 1, 1): api.ErrTermValue, id(math.MaxInt, 1, 1): api.ErrTermValue,
		id(1, 0, 1): api.ErrTermValue, id(1, 1, 0): api.ErrTermValue, id(64, 0, 1): api.ErrTermValue, id(64, 1, 0): api.ErrTermValue, {}: api.ErrTermValue,
	} {
		wantCheck(t, fmt.Sprint("pid ", i), term.Pid(i), e)
		wantCheck(t, fmt.Sprint("ref ", i), term.Ref(i), e)
	}
}

func TestP2_2Depth(t *testing.T) {
	for _, x := range []api.Term{term.Int(1), raw(api.KTuple), term.Bytes([]byte{1}), cx(1, 1)} {
		wantCheck(t, "depth 24", nested(23, x), api.OK)
		wantCheck(t, "depth 25", nested(24, x), api.ErrTermDeep)
		wantCheck(t, "depth 24 at the side", raw(api.KTuple, term.Int(1), nested(22, x)), api.OK)
		wantCheck(t, "depth 25 at the side", raw(api.KTuple, term.Int(1), nested(23, x)), api.ErrTermDeep)
		wantCheck(t, "depth 24 behind depth 24", raw(api.KTuple, nested(22, x), nested(22, x)), api.OK)
	}
	wantCheck(t, "depth 2^16", nested(1<<16-1, term.Int(1)), api.ErrTermDeep)
	wantCheck(t, "no end of depth", endless(), api.ErrTermDeep)
}

// ofSize: right but for its size: so many parts, and so many bytes.
func ofSize(parts, bytes int) api.Term {
	out := raw(api.KTuple, term.Bytes(make([]byte, bytes)))
	for parts -= 2; parts > 0; {
		n := min(parts, 200)
		out.L = append(out.L, raw(api.KList, many(n-1, term.Int(1))...))
		parts -= n
	}
	return out
}

func TestP2_2Size(t *testing.T) {
	for _, n := range []int{0, 1, 2, 100, 1000, 4093, 4094} {
		wantCheck(t, fmt.Sprint("size 4096, bytes: ", n), ofSize(4096-n, n), api.OK)
		wantCheck(t, fmt.Sprint("size 4097, a part more, bytes: ", n), ofSize(4097-n, n), api.ErrTermSize)
		wantCheck(t, fmt.Sprint("size 4097, a byte more, bytes: ", n+1), ofSize(4096-n, n+1), api.ErrTermSize)
	}
	wantCheck(t, "4095 bytes", term.Bytes(make([]byte, 4095)), api.OK)
	wantCheck(t, "4096 bytes", term.Bytes(make([]byte, 4096)), api.ErrTermSize)
	wantCheck(t, "bytes in two parts", raw(api.KList, term.Bytes(make([]byte, 2000)), term.Bytes(make([]byte, 2093))), api.OK)
	wantCheck(t, "bytes in two parts", raw(api.KList, term.Bytes(make([]byte, 2000)), term.Bytes(make([]byte, 2094))), api.ErrTermSize)
	wantCheck(t, "2^13 - 1 parts", doubled(12), api.ErrTermSize)
	wantCheck(t, "2^12 - 1 parts", doubled(11), api.OK)
	wantCheck(t, "2^24 - 1 parts", doubled(23), api.ErrTermSize)
	wantCheck(t, "2^65 - 1 parts", doubled(64), api.ErrTermDeep)
	wantCheck(t, "2^40 parts and more", broad(5), api.ErrTermSize)
}

func TestP2_2Width(t *testing.T) {
	for _, kind := range []int{api.KTuple, api.KList} {
		wantCheck(t, "256 elements", raw(kind, many(256, term.Int(1))...), api.OK)
		wantCheck(t, "257 elements", raw(kind, many(257, term.Int(1))...), api.ErrTermWide)
		wantCheck(t, "5000 elements", raw(kind, many(5000, term.Int(1))...), api.ErrTermWide)
		wantCheck(t, "257 elements within", raw(api.KList, raw(kind, many(257, term.Int(1))...)), api.ErrTermWide)
	}
}

// Of several things that are wrong with one part, the first by the chapter.
func TestP2_2OrderInOnePart(t *testing.T) {
	over := make([]byte, 5000)
	wide := many(257, api.Term{})
	for _, c := range []struct {
		what string
		x    api.Term
		e    api.Errno
	}{
		{"deep, great, no kind", nested(24, api.Term{B: over}), api.ErrTermDeep},
		{"deep, a field", nested(24, api.Term{Kind: api.KInt, S: "x"}), api.ErrTermDeep},
		{"deep, no value", nested(24, term.Atom("A")), api.ErrTermDeep},
		{"deep, wide", nested(24, raw(api.KList, wide...)), api.ErrTermDeep},
		{"great, no kind", api.Term{B: over}, api.ErrTermSize},
		{"great, a field", api.Term{Kind: api.KInt, B: over}, api.ErrTermSize},
		{"great, no value", api.Term{Kind: api.KAtom, S: "A", B: over}, api.ErrTermSize},
		{"great, wide", api.Term{Kind: api.KList, L: wide, B: over}, api.ErrTermSize},
		{"no kind, all fields", api.Term{Kind: 9, N: 1, Z: 1, S: "x", Id: id(1, 1, 1), B: []byte{1}, L: wide}, api.ErrTermKind},
		{"a field, no number", api.Term{Kind: api.KInt, N: math.MaxInt64, S: "x"}, api.ErrTermField},
		{"a field, no number", api.Term{Kind: api.KCx, Z: complex(math.NaN(), 0), N: 1}, api.ErrTermField},
		{"a field, no name", api.Term{Kind: api.KAtom, S: "A", N: 1}, api.ErrTermField},
		{"a field, no id", api.Term{Kind: api.KPid, S: "a"}, api.ErrTermField},
		{"a field, wide", api.Term{Kind: api.KList, L: wide, N: 1}, api.ErrTermField},
		{"an atom with a list that is wide", api.Term{Kind: api.KAtom, S: "A", L: wide}, api.ErrTermField},
		{"wide, elements wrong", raw(api.KTuple, wide...), api.ErrTermWide},
	} {
		wantCheck(t, c.what, c.x, c.e)
	}
}

// Of things that are wrong with unlike parts, the one that stands first.
func TestP2_2OrderOfParts(t *testing.T) {
	faults := map[api.Errno]api.Term{
		api.ErrTermDeep:  nested(23, term.Int(1)),
		api.ErrTermSize:  term.Bytes(make([]byte, 4096)),
		api.ErrTermKind:  {Kind: 9, S: "X"},
		api.ErrTermField: {Kind: api.KInt, S: "x"},
		api.ErrTermValue: term.Atom("A"),
		api.ErrTermWide:  raw(api.KList, many(257, term.Int(1))...),
	}
	for e, first := range faults {
		for _, second := range faults {
			wantCheck(t, "first of two", raw(api.KTuple, term.Int(1), first, second), e)
			wantCheck(t, "first of two, deeper", raw(api.KTuple, raw(api.KList, term.Int(1), first), second), e)
		}
	}
	// The whole is too great or too wide, but a part ahead of where that shows is wrong.
	late := ofSize(5000, 10)
	late.L[0] = term.Atom("A")
	wantCheck(t, "a part ahead of the size", late, api.ErrTermValue)
	late.L[0].Kind = 0
	wantCheck(t, "a part ahead of the size", late, api.ErrTermKind)
	last := ofSize(4096, 0)
	last.L = append(last.L, api.Term{})
	wantCheck(t, "the part that is too much", last, api.ErrTermSize)
	wantCheck(t, "no kind ahead of depth", api.Term{L: []api.Term{nested(30, term.Int(1))}}, api.ErrTermKind)
	wantCheck(t, "a field ahead of the element", api.Term{Kind: api.KInt, L: []api.Term{{}}}, api.ErrTermField)
}

// partsOf: parts as the chapter's words say, with how deep each stands.
func partsOf(x api.Term, deep int) (parts []api.Term, depths []int) {
	parts, depths = []api.Term{x}, []int{deep}
	for _, e := range x.L {
		p, d := partsOf(e, deep+1)
		parts, depths = append(parts, p...), append(depths, d...)
	}
	return parts, depths
}

// asked: what Check must answer, as the chapter's words say.
func asked(x api.Term) api.Errno {
	parts, depths := partsOf(x, 1)
	size := 0
	for i, p := range parts {
		size += 1 + len(p.B)
		wrong := []bool{
			depths[i] > 24, size > 4096, p.Kind < 1 || p.Kind > 8,
			p.Kind != 1 && p.N != 0 || p.Kind != 2 && p.Z != 0 || p.Kind != 3 && p.S != "" || p.Kind != 4 && p.Kind != 5 && p.Id != (api.Id{}) ||
				p.Kind != 6 && p.Kind != 7 && len(p.L) > 0 || p.Kind != 8 && len(p.B) > 0,
			!askedValue(p), len(p.L) > 256,
		}
		if n := slices.Index(wrong, true); n >= 0 {
			return api.ErrTermDeep + api.Errno(n)
		}
	}
	return api.OK
}

func askedValue(p api.Term) bool {
	switch p.Kind {
	case 1:
		return p.N >= -1<<62 && p.N <= 1<<62-1
	case 2:
		for _, x := range []float64{real(p.Z), imag(p.Z)} {
			if math.IsNaN(x) || math.IsInf(x, 0) || x == 0 && math.Signbit(x) {
				return false
			}
		}
	case 3:
		rest := strings.TrimLeft(p.S, "abcdefghijklmnopqrstuvwxyz")
		ahead := len(p.S) - len(rest)
		return ahead > 0 && len(p.S) <= 32 && strings.Trim(rest, "abcdefghijklmnopqrstuvwxyzABCDEFGHIJKLMNOPQRSTUVWXYZ0123456789_") == ""
	case 4, 5:
		return p.Id.Node >= 1 && p.Id.Node <= 64 && p.Id.Boot > 0 && p.Id.N > 0
	}
	return true
}

func TestP2_2Made(t *testing.T) {
	m := newMaker(22)
	seen := map[api.Errno]int{}
	for i := range 20000 {
		x := m.wrong()
		e := asked(x)
		seen[e]++
		wantCheck(t, fmt.Sprint("made term ", i), x, e)
	}
	for _, e := range []api.Errno{api.OK, api.ErrTermDeep, api.ErrTermSize, api.ErrTermKind, api.ErrTermField, api.ErrTermValue, api.ErrTermWide} {
		if seen[e] < 50 {
			t.Errorf("P2.2: only %d terms were made that ask for %d", seen[e], e)
		}
	}
}
