package match_test

import (
	"math"
	"math/rand"
	"slices"
	"strings"
	"testing"

	"rookery/api"
	"rookery/match"
)

func integer(n int64) api.Term { return api.Term{Kind: api.KInt, N: n} }

func cx(p, q float64) api.Term { return api.Term{Kind: api.KCx, Z: complex(p, q)} }

func name(s string) api.Term { return api.Term{Kind: api.KAtom, S: s} }

func ref(node int, boot uint32, n uint64) api.Term {
	return api.Term{Kind: api.KRef, Id: api.Id{Node: node, Boot: boot, N: n}}
}

func pid(node int, boot uint32, n uint64) api.Term {
	return api.Term{Kind: api.KPid, Id: api.Id{Node: node, Boot: boot, N: n}}
}

func tuple(l ...api.Term) api.Term { return api.Term{Kind: api.KTuple, L: l} }

func list(l ...api.Term) api.Term { return api.Term{Kind: api.KList, L: l} }

func raw(s string) api.Term { return api.Term{Kind: api.KBytes, B: []byte(s)} }

func v(s string) api.Term { return api.Term{Kind: api.KVar, S: s} }

func anything() api.Term { return api.Term{Kind: api.KAny} }

func bind(s string, x api.Term) api.Bind { return api.Bind{Name: s, T: x} }

func binds(l ...api.Bind) []api.Bind { return l }

// equal tells terms apart field by field; it takes an empty list for a nil one
// (R3) and ends only for terms that do.
func equal(a, b api.Term) bool {
	return a.Kind == b.Kind && a.N == b.N && a.S == b.S && a.Id == b.Id &&
		sameBits(real(a.Z), real(b.Z)) && sameBits(imag(a.Z), imag(b.Z)) &&
		slices.Equal(a.B, b.B) && slices.EqualFunc(a.L, b.L, equal)
}

func sameBits(x, y float64) bool { return math.Float64bits(x) == math.Float64bits(y) }

func equalBinds(a, b []api.Bind) bool {
	return slices.EqualFunc(a, b, func(x, y api.Bind) bool { return x.Name == y.Name && equal(x.T, y.T) })
}

// namesOf: as much of binds as a message needs.
func namesOf(l []api.Bind) []string {
	var out []string
	for _, b := range l {
		out = append(out, b.Name)
	}
	return out
}

func wantCheck(t *testing.T, what string, p api.Term, e api.Errno) {
	t.Helper()
	if got := match.Check(p); got != e {
		t.Errorf("P5.1: %s: Check: %d, not %d", what, got, e)
	}
}

func wantVars(t *testing.T, what string, p api.Term, want ...string) {
	t.Helper()
	if got := match.Vars(p); !slices.Equal(got, want) {
		t.Errorf("P5.1: %s: Vars: %q, not %q", what, got, want)
	}
}

// wantMatch: beside an error and beside false nothing else is told (R2).
func wantMatch(t *testing.T, what string, p, x api.Term, known, want []api.Bind, wantOk bool, wantErr api.Errno) {
	t.Helper()
	got, ok, e := match.Match(p, x, known)
	if e != wantErr || ok != wantOk || !equalBinds(got, want) {
		t.Errorf("P5.2: %s: Match: %q, %v, %d; want %q, %v, %d", what, namesOf(got), ok, e, namesOf(want), wantOk, wantErr)
	}
}

func wantFits(t *testing.T, what string, p, x api.Term, known, want []api.Bind) {
	t.Helper()
	wantMatch(t, what, p, x, known, want, true, api.OK)
}

func wantMisfit(t *testing.T, what string, p, x api.Term, known []api.Bind) {
	t.Helper()
	wantMatch(t, what, p, x, known, nil, false, api.OK)
}

func wantRefused(t *testing.T, what string, p, x api.Term, known []api.Bind, e api.Errno) {
	t.Helper()
	wantMatch(t, what, p, x, known, nil, false, e)
}

// wantFill: beside an error no term is told (R2).
func wantFill(t *testing.T, what string, p api.Term, known []api.Bind, want api.Term, wantErr api.Errno) {
	t.Helper()
	if got, e := match.Fill(p, known); e != wantErr || !equal(got, want) {
		t.Errorf("P5.3: %s: Fill: a term of kind %d, %d; want one of kind %d, %d", what, got.Kind, e, want.Kind, wantErr)
	}
}

func wantNoFill(t *testing.T, what string, p api.Term, known []api.Bind, e api.Errno) {
	t.Helper()
	wantFill(t, what, p, known, api.Term{}, e)
}

func many(n int, x api.Term) []api.Term { return slices.Repeat([]api.Term{x}, n) }

// nested: x in so many lists.
func nested(n int, x api.Term) api.Term {
	for range n {
		x = list(x)
	}
	return x
}

// ofSize: right but for its size: so many parts, and so many bytes. The parts
// that it may have beside its lists are all x, which is one part.
func ofSize(parts, bytes int, x api.Term) api.Term {
	out := tuple(raw(strings.Repeat("b", bytes)))
	for parts -= 2; parts > 0; {
		n := min(parts, 200)
		out.L = append(out.L, list(many(n-1, x)...))
		parts -= n
	}
	return out
}

// counted: names by numbers, from one on behind another, with their parts.
func counted(from, n int) (names []string, parts []api.Term) {
	for i := from; i < from+n; i++ {
		s := "V" + string([]byte{byte('a' + i/26/26), byte('a' + i/26%26), byte('a' + i%26)})
		names, parts = append(names, s), append(parts, v(s))
	}
	return names, parts
}

// countedBinds: so many names, each with its number.
func countedBinds(from, n int) []api.Bind {
	var out []api.Bind
	names, _ := counted(from, n)
	for i, s := range names {
		out = append(out, bind(s, integer(int64(from+i))))
	}
	return out
}

// numbers: a list of the numbers from one on.
func numbers(from, n int) []api.Term {
	var out []api.Term
	for i := from; i < from+n; i++ {
		out = append(out, integer(int64(i)))
	}
	return out
}

// samples: right terms of every kind, no two of them the same.
func samples() []api.Term {
	return []api.Term{
		integer(0), integer(1), integer(-1), integer(api.MinInt), integer(api.MaxInt),
		cx(0, 0), cx(1, 0), cx(0, 1), cx(1, 1), cx(-math.MaxFloat64, math.SmallestNonzeroFloat64),
		name("a"), name("b"), name("aB_0"), name(strings.Repeat("z", 31)), name(strings.Repeat("z", 32)),
		ref(1, 1, 1), ref(64, math.MaxUint32, math.MaxUint64), ref(1, 1, 2), ref(1, 2, 1), ref(2, 1, 1),
		pid(1, 1, 1), pid(64, math.MaxUint32, math.MaxUint64), pid(1, 1, 2), pid(1, 2, 1), pid(2, 1, 1),
		tuple(), tuple(integer(1)), tuple(integer(2)), tuple(integer(1), integer(2)), tuple(integer(2), integer(1)), tuple(tuple()), tuple(list()), tuple(many(256, integer(1))...),
		list(), list(integer(1)), list(integer(2)), list(integer(1), integer(2)), list(integer(2), integer(1)), list(list()), list(tuple()), list(many(256, integer(1))...),
		raw(""), raw("a"), raw("b"), raw("ab"), raw("\x00"), raw("\xff\x00"), raw(strings.Repeat("q", 300)),
		tuple(name("a"), list(integer(1), cx(1, 2), raw("x")), pid(1, 1, 1)), nested(23, integer(7)),
	}
}

// maker makes terms and patterns out of a row of numbers that is the same in each run.
type maker struct{ *rand.Rand }

func newMaker(seed int64) maker { return maker{rand.New(rand.NewSource(seed))} }

func pick[T any](m maker, l ...T) T { return l[m.Intn(len(l))] }

// right: a right term, of a few values, so that two of them are often alike.
func (m maker) right(deep int) api.Term {
	switch kind := 1 + m.Intn(8); kind {
	case api.KInt:
		return integer(int64(m.Intn(3)))
	case api.KCx:
		return cx(float64(m.Intn(2)), float64(m.Intn(2)))
	case api.KAtom:
		return name(pick(m, "a", "b", "aB_0"))
	case api.KRef, api.KPid:
		return api.Term{Kind: kind, Id: api.Id{Node: 1 + m.Intn(2), Boot: 1, N: 1 + uint64(m.Intn(2))}}
	case api.KTuple, api.KList:
		x := api.Term{Kind: kind}
		for n := m.Intn(4); n > 0 && deep > 1; n-- {
			x.L = append(x.L, m.right(deep-1))
		}
		return x
	}
	return raw(pick(m, "", "x", "\x00\xff"))
}

func (m maker) varName() string { return pick(m, "X", "Y", "Zz", "_a", "X_1", "Q9", "__") }

// pattern: a pattern that x fits more often than not: some of its parts are
// made names or KAny, few are made something else.
func (m maker) pattern(x api.Term, odds int) api.Term {
	switch m.Intn(odds) {
	case 0, 1:
		return v(m.varName())
	case 2:
		return anything()
	case 3:
		if m.Intn(8) == 0 {
			return m.right(2)
		}
	}
	l := make([]api.Term, len(x.L))
	for i, e := range x.L {
		l[i] = m.pattern(e, odds)
	}
	x.L = l
	return x
}

// known: right binds of some names, often with what stands in x.
func (m maker) known(x api.Term) []api.Bind {
	var out []api.Bind
	for _, s := range []string{"Y", "X", "Other", "__"} {
		if m.Intn(4) > 0 {
			continue
		}
		t := m.right(3)
		if len(x.L) > 0 && m.Intn(3) > 0 {
			t = pick(m, x.L...)
		}
		out = append(out, bind(s, t))
	}
	m.Shuffle(len(out), func(i, j int) { out[i], out[j] = out[j], out[i] })
	return out
}

// spoil: x with something wrong in one of its parts, or in some.
func (m maker) spoil(x api.Term) api.Term {
	l := make([]api.Term, len(x.L))
	for i, e := range x.L {
		l[i] = e
		if m.Intn(2) == 0 {
			l[i] = m.spoil(e)
		}
	}
	x.L = l
	if m.Intn(3) > 0 && len(l) > 0 {
		return x
	}
	switch m.Intn(8) {
	case 0:
		x.Kind = m.Intn(14) - 1
	case 1:
		x.N = pick[int64](m, 0, 1, api.MaxInt, api.MaxInt+1, math.MinInt64)
	case 2:
		x.Z = pick[complex128](m, 0, 1, 1i, complex(math.NaN(), 0), complex(0, math.Inf(1)))
	case 3:
		x.S = pick(m, "", "_", "x", "X", "9", "X!", strings.Repeat("X", 32), strings.Repeat("X", 33), strings.Repeat("x", 33))
	case 4:
		x.Id = pick(m, api.Id{}, api.Id{Node: 1, Boot: 1, N: 1}, api.Id{Node: 65, Boot: 1, N: 1}, api.Id{Boot: 1})
	case 5:
		x.B = []byte(strings.Repeat("b", pick(m, 0, 1, 2000, 4096)))
	case 6:
		x.L = append(x.L, many(pick(m, 1, 255, 256, 257), v("X"))...)
	case 7:
		return pick(m, nested(m.Intn(30), x), ofSize(pick(m, 2000, 4000), m.Intn(300), anything()), v("x"), api.Term{})
	}
	return x
}

// wrongBinds: known with something wrong in it, more often than not.
func (m maker) wrongBinds(known []api.Bind) []api.Bind {
	known = slices.Clone(known)
	switch m.Intn(6) {
	case 0:
		return append(known, bind(pick(m, "", "_", "x", "9", "X!", strings.Repeat("X", 33)), integer(1)))
	case 1:
		return append(known, bind("New", m.spoil(m.right(3))))
	case 2:
		return append(known, bind("New", pick(m, v("X"), anything(), list(anything()), api.Term{})))
	case 3:
		return append(known, append(countedBinds(0, 3), known...)...)
	case 4:
		return append(known, countedBinds(0, pick(m, 60, 63, 64, 65, 100))...)
	}
	return known
}
