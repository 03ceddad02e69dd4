package term_test

import (
	"math"
	"math/rand"
	"slices"
	"strings"
	"testing"

	"rookery/api"
	"rookery/term"
)

var minusZero = math.Copysign(0, -1)

func cx(p, q float64) api.Term { return api.Term{Kind: api.KCx, Z: complex(p, q)} }

func id(node int, boot uint32, n uint64) api.Id { return api.Id{Node: node, Boot: boot, N: n} }

// raw makes a tuple or a list without a call of the package that is tested.
func raw(kind int, l ...api.Term) api.Term { return api.Term{Kind: kind, L: l} }

// equal tells terms apart field by field; it takes an empty list for a nil one
// (R3) and ends only for terms that do.
func equal(a, b api.Term) bool {
	return a.Kind == b.Kind && a.N == b.N && a.S == b.S && a.Id == b.Id &&
		sameBits(real(a.Z), real(b.Z)) && sameBits(imag(a.Z), imag(b.Z)) &&
		slices.Equal(a.B, b.B) && slices.EqualFunc(a.L, b.L, equal)
}

func sameBits(x, y float64) bool { return math.Float64bits(x) == math.Float64bits(y) }

func want(t *testing.T, what string, got, want api.Term) {
	t.Helper()
	if !equal(got, want) {
		t.Errorf("%s: got %+v; want %+v", what, got, want)
	}
}

// many: that many times x.
func many(n int, x api.Term) []api.Term { return slices.Repeat([]api.Term{x}, n) }

// nested: x in so many lists.
func nested(n int, x api.Term) api.Term {
	for range n {
		x = raw(api.KList, x)
	}
	return x
}

// endless: a list that is its own element.
func endless() api.Term {
	l := make([]api.Term, 1)
	l[0] = raw(api.KList, l...)
	return l[0]
}

// doubled: few lists, but 2^(n+1) - 1 parts.
func doubled(n int) api.Term {
	x := term.Int(1)
	for range n {
		x = raw(api.KTuple, x, x)
	}
	return x
}

// broad: few lists and little depth, but more than 256^n parts.
func broad(n int) api.Term {
	x := term.Int(1)
	for range n {
		x = raw(api.KList, many(256, x)...)
	}
	return x
}

// inOrder: right terms, each ahead of the next.
func inOrder() []api.Term {
	one, two, nine := term.Int(1), term.Int(2), term.Int(9)
	tuple := func(l ...api.Term) api.Term { return raw(api.KTuple, l...) }
	list := func(l ...api.Term) api.Term { return raw(api.KList, l...) }
	out := []api.Term{
		term.Int(api.MinInt), term.Int(-1), term.Int(0), one, two, nine, term.Int(api.MaxInt),
		cx(-math.MaxFloat64, 0), cx(-5, 1), cx(0, -1), cx(0, 0), cx(0, 1), cx(1, -9), cx(1, 2), cx(math.MaxFloat64, math.MaxFloat64),
	}
	for _, s := range []string{"a", "a0", "a1", "aA", "aZ", "a_", "aa", "aaa", "ab", "az", "b", "z", strings.Repeat("z", 31), strings.Repeat("z", 32)} {
		out = append(out, term.Atom(s))
	}
	ids := []api.Id{id(1, 1, 1), id(1, 1, 2), id(1, 1, math.MaxUint64), id(1, 2, 1), id(1, math.MaxUint32, 1), id(2, 1, 1), id(9, 3, 3), id(10, 1, 1), id(64, 1, 1)}
	for _, i := range ids {
		out = append(out, term.Ref(i))
	}
	for _, i := range ids {
		out = append(out, term.Pid(i))
	}
	out = append(out,
		tuple(), tuple(one), tuple(nine), tuple(cx(0, 0)), tuple(tuple()), tuple(list()),
		tuple(one, one), tuple(one, two), tuple(two, one), tuple(list(two), one), tuple(list(two, one), one), tuple(one, one, one), tuple(many(256, one)...),
		list(), list(one), list(one, one), list(one, one, nine), list(one, two), list(many(256, two)...), list(nine), list(term.Atom("a")),
		list(tuple(nine)), list(tuple(one, one)), list(list()), list(list(one)), list(list(one), one), list(list(one, one)), list(term.Bytes(nil)),
	)
	for _, s := range []string{"", "\x00", "\x00\x00", "\x00\xff", "\x01", "a", "aa", "ab", "b", "\x7f", "\x80", "\xff", "\xff\x00", "\xff\xff"} {
		out = append(out, term.Bytes([]byte(s)))
	}
	return out
}

// maker makes terms out of a row of numbers that is the same in each run.
type maker struct{ *rand.Rand }

func newMaker(seed int64) maker { return maker{rand.New(rand.NewSource(seed))} }

// right: a right term, of a few values, so that two of them are often alike.
func (m maker) right(deep int) api.Term {
	kind := 1 + m.Intn(8)
	if deep <= 1 && (kind == api.KTuple || kind == api.KList) {
		kind = api.KInt
	}
	switch kind {
	case api.KInt:
		return term.Int(int64(m.Intn(3) - 1))
	case api.KCx:
		return cx(float64(m.Intn(2)), float64(m.Intn(2)))
	case api.KAtom:
		return term.Atom([]string{"a", "b", "aB", "a_"}[m.Intn(4)])
	case api.KRef:
		return term.Ref(id(1+m.Intn(2), 1+uint32(m.Intn(2)), 1+uint64(m.Intn(2))))
	case api.KPid:
		return term.Pid(id(1+m.Intn(2), 1+uint32(m.Intn(2)), 1+uint64(m.Intn(2))))
	case api.KBytes:
		return term.Bytes(make([]byte, m.Intn(3)))
	}
	out := api.Term{Kind: kind}
	for range m.Intn(4) {
		out.L = append(out.L, m.right(deep-1))
	}
	return out
}

// spoil turns a field of t, or of one of its parts, into something else.
func (m maker) spoil(t *api.Term) {
	if len(t.L) > 0 && m.Intn(4) > 0 {
		m.spoil(&t.L[m.Intn(len(t.L))])
		return
	}
	switch m.Intn(9) {
	case 0:
		t.Kind = m.Intn(12) - 1
	case 1:
		t.N = []int64{0, 1, api.MinInt - 1, api.MaxInt + 1}[m.Intn(4)]
	case 2:
		t.Z = []complex128{0, 1, 1i, complex(math.NaN(), 0), complex(0, minusZero), complex(math.Inf(-1), 1)}[m.Intn(6)]
	case 3:
		t.S = []string{"", "a", "A", strings.Repeat("a", 33)}[m.Intn(4)]
	case 4:
		t.Id = []api.Id{{}, id(1, 1, 1), id(0, 1, 1), id(65, 1, 1), id(1, 0, 1), id(1, 1, 0)}[m.Intn(6)]
	case 5:
		t.B = make([]byte, []int{0, 1, 100, 4000, 4095, 4096}[m.Intn(6)])
	case 6:
		t.L = many([]int{0, 1, 256, 257}[m.Intn(4)], term.Int(3))
	case 7:
		t.Kind = api.KList
		t.L = append(t.L, nested(19+m.Intn(6), term.Int(1)))
	case 8:
		t.Kind = api.KTuple
		t.L = many(254+m.Intn(5), term.Int(1))
	}
}

// wrong: a term that is right or, more often, has one or more things wrong.
func (m maker) wrong() api.Term {
	t := m.right(5)
	for range m.Intn(4) {
		m.spoil(&t)
	}
	return t
}
