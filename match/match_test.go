package match_test

import (
	"fmt"
	"math"
	"slices"
	"strings"
	"testing"

	"rookery/api"
)

func TestP5_2Examples(t *testing.T) {
	one, two := integer(1), integer(2)
	wantFits(t, "{X,X}, {1,1}", tuple(v("X"), v("X")), tuple(one, one), nil, binds(bind("X", one)))
	wantMisfit(t, "{X,X}, {1,2}", tuple(v("X"), v("X")), tuple(one, two), nil)
	wantMisfit(t, "{_,Y}, {1,2}, Y is 3", tuple(anything(), v("Y")), tuple(one, two), binds(bind("Y", integer(3))))
	wantFits(t, "{_,Y}, {1,2}, Y is 2", tuple(anything(), v("Y")), tuple(one, two), binds(bind("Y", two)), binds(bind("Y", two)))
	wantFits(t, "{_,Y}, {1,2}", tuple(anything(), v("Y")), tuple(one, two), nil, binds(bind("Y", two)))
}

// A pattern without names and KAny fits itself, and nothing else.
func TestP5_2TheSameTerm(t *testing.T) {
	for i, p := range samples() {
		for j, x := range samples() {
			wantMatch(t, fmt.Sprintf("terms %d and %d", i, j), p, x, nil, nil, i == j, api.OK)
			inP, inX := tuple(v("A"), list(p, name("e"))), tuple(integer(5), list(x, name("e")))
			if askedCheck(inP, 10) != api.OK || askedCheck(inX, 8) != api.OK {
				continue
			}
			if i == j {
				wantFits(t, fmt.Sprint("within others, term ", i), inP, inX, nil, binds(bind("A", integer(5))))
			} else {
				wantMisfit(t, fmt.Sprintf("within others, terms %d and %d", i, j), inP, inX, nil)
			}
		}
	}
}

func TestP5_2AnyTerm(t *testing.T) {
	other := binds(bind("Z", name("z")))
	for i, x := range samples() {
		wantFits(t, fmt.Sprint("KAny, term ", i), anything(), x, nil, nil)
		wantFits(t, fmt.Sprint("KAny, another known, term ", i), anything(), x, other, other)
		wantFits(t, fmt.Sprint("X, term ", i), v("X"), x, nil, binds(bind("X", x)))
		wantFits(t, fmt.Sprint("X, another known, term ", i), v("X"), x, other, append(slices.Clone(other), bind("X", x)))
		for j, y := range samples() {
			if i == j {
				wantFits(t, fmt.Sprint("X is known, term ", i), v("X"), x, binds(bind("X", y)), binds(bind("X", y)))
			} else {
				wantMisfit(t, fmt.Sprintf("X is term %d, term %d", j, i), v("X"), x, binds(bind("X", y)))
			}
		}
	}
	x := tuple(integer(1), integer(2))
	wantFits(t, "KAny twice", tuple(anything(), anything()), x, nil, nil)
	wantFits(t, "KAny known as nothing", list(anything(), v("X"), anything()), list(integer(1), integer(2), integer(3)), nil, binds(bind("X", integer(2))))
}

func TestP5_2LengthsAndKinds(t *testing.T) {
	for n := range 5 {
		for m := range 5 {
			for _, c := range []struct {
				p, x int
			}{{api.KTuple, api.KTuple}, {api.KList, api.KList}, {api.KTuple, api.KList}, {api.KList, api.KTuple}} {
				what := fmt.Sprintf("kind %d with %d, kind %d with %d", c.p, n, c.x, m)
				fits := n == m && c.p == c.x
				wantMatch(t, what, api.Term{Kind: c.p, L: many(n, anything())}, api.Term{Kind: c.x, L: numbers(0, m)}, nil, nil, fits, api.OK)
				_, names := counted(0, n)
				var want []api.Bind
				if fits {
					want = countedBinds(0, n)
				}
				wantMatch(t, what, api.Term{Kind: c.p, L: names}, api.Term{Kind: c.x, L: numbers(0, m)}, nil, want, fits, api.OK)
			}
		}
	}
	for _, x := range samples() {
		if x.Kind != api.KTuple {
			wantMisfit(t, "{}", tuple(), x, nil)
			wantMisfit(t, "{X}", tuple(v("X")), x, nil)
		}
		if x.Kind != api.KList {
			wantMisfit(t, "[]", list(), x, nil)
			wantMisfit(t, "[X]", list(v("X")), x, nil)
		}
	}
	wantFits(t, "256 elements", list(many(256, v("X"))...), list(many(256, integer(1))...), nil, binds(bind("X", integer(1))))
	wantMisfit(t, "256 elements, 255", list(many(256, v("X"))...), list(many(255, integer(1))...), nil)
}

// A name that stands twice stands for the same both times, wherever it is.
func TestP5_2Twice(t *testing.T) {
	for i, a := range samples() {
		for j, b := range samples() {
			x := list(a, tuple(b))
			if askedCheck(x, 8) != api.OK {
				continue
			}
			var want []api.Bind
			if i == j {
				want = binds(bind("X", a))
			}
			wantMatch(t, fmt.Sprintf("terms %d and %d", i, j), list(v("X"), tuple(v("X"))), x, nil, want, i == j, api.OK)
		}
	}
	one, two := integer(1), integer(2)
	p := tuple(v("X"), v("Y"), v("X"), list(v("Y"), v("X")))
	wantFits(t, "X and Y", p, tuple(one, two, one, list(two, one)), nil, binds(bind("X", one), bind("Y", two)))
	wantFits(t, "X and Y alike", p, tuple(one, one, one, list(one, one)), nil, binds(bind("X", one), bind("Y", one)))
	wantMisfit(t, "the last X", p, tuple(one, two, one, list(two, two)), nil)
	wantMisfit(t, "the second X", p, tuple(one, two, two, list(two, one)), nil)
	wantMisfit(t, "the second Y", p, tuple(one, two, one, list(one, one)), nil)
	wantMisfit(t, "X is known", p, tuple(one, two, one, list(two, one)), binds(bind("X", two)))
	wantFits(t, "Y is known", p, tuple(one, two, one, list(two, one)), binds(bind("Y", two)), binds(bind("Y", two), bind("X", one)))
	wantFits(t, "a name whose part holds the same name's", tuple(v("X"), list(v("X"))), tuple(list(one), list(list(one))), nil, binds(bind("X", list(one))))
	wantMisfit(t, "a name and what it holds", tuple(v("X"), list(v("X"))), tuple(list(one), list(one)), nil)
}

// Names that are alike but for a byte are unlike names.
func TestP5_2UnlikeNames(t *testing.T) {
	l := []string{"X", "X1", "XX", "Xx", "_X", "X_", "__", "_x", "Y"}
	p, x, want := list(), list(), binds()
	for i, s := range l {
		p.L, x.L, want = append(p.L, v(s)), append(x.L, integer(int64(i))), append(want, bind(s, integer(int64(i))))
	}
	wantFits(t, "unlike names", p, x, nil, want)
	wantFits(t, "atoms are no names", tuple(name("x"), v("X")), tuple(name("x"), integer(1)), binds(bind("Xx", integer(2))), binds(bind("Xx", integer(2)), bind("X", integer(1))))
}

func TestP5_2Order(t *testing.T) {
	p := tuple(list(tuple(v("Z"), v("M"))), v("A"), list(v("M"), v("B"), list(v("_x"))), v("Z"))
	x := tuple(list(tuple(integer(1), integer(2))), integer(3), list(integer(2), integer(4), list(integer(5))), integer(1))
	z, m, a, b, u := bind("Z", integer(1)), bind("M", integer(2)), bind("A", integer(3)), bind("B", integer(4)), bind("_x", integer(5))
	q, c := bind("Q", name("q")), bind("C", name("c"))
	wantFits(t, "nothing known", p, x, nil, binds(z, m, a, b, u))
	wantFits(t, "others known", p, x, binds(q, c), binds(q, c, z, m, a, b, u))
	wantFits(t, "others known, the other way round", p, x, binds(c, q), binds(c, q, z, m, a, b, u))
	wantFits(t, "some known", p, x, binds(u, q, a, c), binds(u, q, a, c, z, m, b))
	wantFits(t, "some known, in another order", p, x, binds(a, c, u, q), binds(a, c, u, q, z, m, b))
	wantFits(t, "all known", p, x, binds(u, b, a, m, z), binds(u, b, a, m, z))
	wantFits(t, "all known, and others", p, x, binds(u, b, q, a, m, z, c), binds(u, b, q, a, m, z, c))
	_, parts := counted(0, 64)
	slices.Reverse(parts)
	back := countedBinds(0, 64)
	slices.Reverse(back)
	terms := numbers(0, 64)
	slices.Reverse(terms)
	wantFits(t, "64 names, the last first", list(parts...), list(terms...), nil, back)
}

// At most 64 names are bound, known ones and new ones together.
func TestP5_2Many(t *testing.T) {
	for _, c := range []struct{ known, added int }{{0, 64}, {0, 65}, {0, 256}, {1, 63}, {1, 64}, {63, 1}, {63, 2}, {64, 0}, {64, 1}, {32, 32}, {32, 33}, {60, 200}} {
		what := fmt.Sprintf("%d known, %d new", c.known, c.added)
		known := countedBinds(0, c.known)
		_, parts := counted(c.known, c.added)
		p, x := list(parts...), list(numbers(c.known, c.added)...)
		if c.known+c.added > 64 {
			wantRefused(t, what, p, x, known, api.ErrMatchMany)
			misfits(t, what, p, x, known)
			continue
		}
		wantFits(t, what, p, x, known, countedBinds(0, c.known+c.added))
	}
	// Names that stand twice, or that are known, count once.
	_, parts := counted(0, 64)
	twice := tuple(list(parts...), list(parts...))
	x := tuple(list(numbers(0, 64)...), list(numbers(0, 64)...))
	wantFits(t, "64 names twice", twice, x, nil, countedBinds(0, 64))
	wantFits(t, "64 names twice, 64 known", twice, x, countedBinds(0, 64), countedBinds(0, 64))
	wantFits(t, "64 names twice, 10 known", twice, x, countedBinds(0, 10), countedBinds(0, 64))
	wantRefused(t, "64 names, another known", twice, x, binds(bind("Other", integer(1))), api.ErrMatchMany)
	wantFits(t, "64 names and KAny", list(append(slices.Clone(parts), many(100, anything())...)...), list(numbers(0, 164)...), nil, countedBinds(0, 64))
}

// misfits: where more names would be bound than may be, but it doesn't fit,
// that is told instead, wherever it shows.
func misfits(t *testing.T, what string, p, x api.Term, known []api.Bind) {
	t.Helper()
	wantMisfit(t, what+", the kind", p, tuple(x.L...), known)
	if len(p.L) == 256 {
		return
	}
	wantMisfit(t, what+", the length", p, list(append(slices.Clone(x.L), integer(1))...), known)
	wantMisfit(t, what+", the first part", list(append([]api.Term{name("a")}, p.L...)...), list(append([]api.Term{name("b")}, x.L...)...), known)
	wantMisfit(t, what+", the last part", list(append(slices.Clone(p.L), name("a"))...), list(append(slices.Clone(x.L), name("b"))...), known)
	wantMisfit(t, what+", a name twice", list(append(slices.Clone(p.L), p.L[len(p.L)-1])...), list(append(slices.Clone(x.L), name("b"))...), known)
}

// badBinds: lists of binds that are not right.
func badBinds() map[string][]api.Bind {
	one, x := integer(1), bind("X", integer(1))
	bad := map[string][]api.Bind{
		"twice, alike":       {x, x},
		"twice, unlike":      {x, bind("X", integer(2))},
		"twice, apart":       {x, bind("Y", one), bind("Z", one), x},
		"no name":            {bind("", one)},
		"_":                  {bind("_", one)},
		"an atom's":          {bind("x", one)},
		"a digit first":      {bind("1X", one)},
		"33 bytes":           {bind(strings.Repeat("X", 33), one)},
		"the last name":      {x, bind("Y", one), bind("Z!", one)},
		"the first name":     {bind("é", one), x},
		"no term":            {{Name: "X"}},
		"a part KVar":        {bind("X", v("X"))},
		"a part KVar, deep":  {bind("Y", one), bind("X", nested(9, tuple(one, v("Z"))))},
		"a part KAny":        {bind("X", list(anything()))},
		"an atom that's not": {bind("X", name("X"))},
		"a field":            {bind("X", api.Term{Kind: api.KInt, S: "x"})},
		"deep":               {bind("X", nested(24, one))},
		"wide":               {bind("X", list(many(257, one)...))},
		"great":              {bind("X", raw(strings.Repeat("b", 4096)))},
		"no number":          {x, bind("Y", cx(math.Inf(1), 0))},
		"65":                 countedBinds(0, 65),
		"100":                countedBinds(0, 100),
		"65 and none right":  make([]api.Bind, 65),
		"1000000":            make([]api.Bind, 1000000),
		"64 and twice":       append(countedBinds(0, 63), countedBinds(5, 1)...),
	}
	return bad
}

func TestP5_2Binds(t *testing.T) {
	for what, known := range badBinds() {
		wantRefused(t, what, anything(), integer(1), known, api.ErrMatchBind)
		wantRefused(t, what+", X fits", v("X"), integer(1), known, api.ErrMatchBind)
		wantRefused(t, what+", what does not fit", list(), integer(1), known, api.ErrMatchBind)
	}
	for i, x := range samples() {
		wantFits(t, fmt.Sprint("right binds, term ", i), anything(), integer(1), binds(bind("A", x)), binds(bind("A", x)))
	}
	long := strings.Repeat("L", 32)
	for _, known := range [][]api.Bind{nil, {}, countedBinds(0, 64), {bind(long, integer(1)), bind(long[1:], integer(1)), bind("__", integer(1))}, {bind("A", nested(23, integer(1))), bind("B", ofSize(4096, 0, integer(1))), bind("C", ofSize(4096, 0, integer(1)))}} {
		wantFits(t, "right binds", tuple(anything()), tuple(integer(1)), known, known)
	}
}

// R1: the pattern's error, then the term's, then the binds'.
func TestP5_2OrderOfErrors(t *testing.T) {
	bad := badBinds()
	for e, wrong := range faults() {
		p := tuple(v("X"), wrong)
		for what, known := range bad {
			wantRefused(t, "pattern and binds: "+what, p, tuple(integer(1), integer(2)), known, e)
		}
		wantRefused(t, "pattern", p, tuple(integer(1), integer(2)), nil, e)
		wantRefused(t, "pattern, and nothing fits", p, integer(1), nil, e)
		for _, second := range faults() {
			wantRefused(t, "pattern and term", p, second, bad["65"], e)
		}
		if e == api.ErrMatchVar {
			continue
		}
		for what, known := range bad {
			wantRefused(t, "term and binds: "+what, v("X"), p, known, term8(p))
			wantRefused(t, "term and binds, and nothing fits: "+what, integer(1), p, known, term8(p))
		}
	}
	// What is a part of patterns alone is no part of a term.
	wantRefused(t, "KVar in a term", v("X"), v("X"), nil, api.ErrTermKind)
	wantRefused(t, "KAny in a term", v("X"), list(integer(1), anything()), nil, api.ErrTermKind)
	wantRefused(t, "the term, if it is wrong where nothing is looked at", tuple(integer(1), anything()), tuple(integer(2), name("X")), nil, api.ErrTermValue)
	wantRefused(t, "the zero Term", api.Term{}, integer(1), nil, api.ErrTermKind)
	wantRefused(t, "the zero Term", anything(), api.Term{}, nil, api.ErrTermKind)
	_, parts := counted(0, 65)
	wantRefused(t, "binds, and too many names", list(parts...), list(numbers(0, 65)...), bad["_"], api.ErrMatchBind)
}

func term8(x api.Term) api.Errno { return askedCheck(x, api.KBytes) }

// What lies deepest and what is greatest still fits.
func TestP5_2Limits(t *testing.T) {
	wantFits(t, "depth 24", nested(23, v("X")), nested(23, integer(1)), nil, binds(bind("X", integer(1))))
	wantFits(t, "depth 24 in one name", v("X"), nested(23, integer(1)), nil, binds(bind("X", nested(23, integer(1)))))
	wantFits(t, "depth 24 in one name, deep", nested(22, v("X")), nested(23, integer(1)), nil, binds(bind("X", list(integer(1)))))
	great := ofSize(4000, 96, integer(1))
	wantFits(t, "size 4096", great, great, nil, nil)
	wantFits(t, "size 4096, one name", v("X"), great, binds(bind("Y", great)), binds(bind("Y", great), bind("X", great)))
	wantFits(t, "size 4096, one name in all parts", ofSize(4000, 96, v("X")), great, nil, binds(bind("X", integer(1))))
	other := ofSize(4000, 96, integer(1))
	other.L[len(other.L)-1].L = slices.Clone(other.L[len(other.L)-1].L)
	other.L[len(other.L)-1].L[0] = integer(2)
	wantMisfit(t, "size 4096, a part of the last list", great, other, nil)
	wantMisfit(t, "size 4096, a part of the last list, one name", ofSize(4000, 96, v("X")), other, nil)
	wantMisfit(t, "size 4096, known", v("X"), other, binds(bind("X", great)))
	wantFits(t, "bytes", raw(strings.Repeat("b", 4095)), raw(strings.Repeat("b", 4095)), nil, nil)
	wantMisfit(t, "bytes", raw(strings.Repeat("b", 4095)), raw(strings.Repeat("b", 4094)+"c"), nil)
}
