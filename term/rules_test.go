package term_test

import (
	"math"
	"slices"
	"testing"
	"unsafe"

	"rookery/api"
	"rookery/term"
)

// scramble writes into all memory that x leads to, its spare room included.
func scramble(x *api.Term) {
	for i := range x.B[:cap(x.B)] {
		x.B[:cap(x.B)][i] ^= 0x55
	}
	room := x.L[:cap(x.L)]
	for i := range room {
		scramble(&room[i])
		room[i].Kind, room[i].N, room[i].S = 99, -7, "spoilt"
	}
}

// roomy: x anew, with lists that have spare room in which something stands.
func roomy(x api.Term) api.Term {
	x.B = append(append(make([]byte, 0, len(x.B)+8), x.B...), "spare"...)[:len(x.B)]
	l := make([]api.Term, len(x.L), len(x.L)+2)
	for i, e := range x.L {
		l[i] = roomy(e)
	}
	x.L = append(l, api.Term{Kind: 55, S: "spare"})[:len(l)]
	return x
}

// spare: what stands in the spare room of x's lists, and of its parts'.
func spare(x api.Term) []api.Term {
	out := []api.Term{{B: x.B[len(x.B):cap(x.B)]}}
	out = append(out, x.L[len(x.L):cap(x.L)]...)
	for _, e := range x.L {
		out = append(out, spare(e)...)
	}
	return out
}

func samples() []api.Term {
	m := newMaker(4)
	out := append(inOrder(), raw(api.KTuple, inOrder()...))
	for range 300 {
		out = append(out, m.wrong())
	}
	return out
}

// answers: every term that a call answers when x is handed in.
func answers(x api.Term) []api.Term {
	out := []api.Term{term.Copy(x), term.Bytes(x.B), term.Tuple(x.L...), term.List(x.L...), term.Tuple(x), term.List(x, x)}
	return append(out, slices.Collect(term.Each(x))...)
}

func TestR4NothingIsChanged(t *testing.T) {
	for _, x := range samples() {
		given := roomy(x)
		answers(given)
		term.Check(given)
		term.Size(given)
		term.Cmp(given, given)
		term.Same(given, given)
		want(t, "R4: an argument was changed", given, x)
		if !slices.EqualFunc(spare(given), spare(roomy(x)), equal) {
			t.Errorf("R4: the spare room of %v was changed", x)
		}
	}
}

// What is within the limits of depth and size is answered in memory of its own,
// right or not; the limits are those of the whole answer.
func within(x api.Term) bool {
	parts, depths := partsOf(x, 1)
	size := 0
	for _, p := range parts {
		size += 1 + len(p.B)
	}
	return slices.Max(depths) <= api.MaxDeep-1 && 2*size < api.MaxSize
}

func TestR4NothingIsShared(t *testing.T) {
	for _, x := range samples() {
		if !within(x) {
			continue
		}
		given := roomy(x)
		got, asked := answers(given), answers(roomy(x))
		seq := term.Each(given)
		parts := slices.Collect(seq)
		scramble(&given)
		for i := range got {
			want(t, "R4: an answer changed with the argument", got[i], asked[i])
			scramble(&got[i])
		}
		wantEach(t, "R4: an iterator keeps the argument", seq, parts)
		for i := range parts {
			scramble(&parts[i])
		}
		wantEach(t, "R4: an iterator hands out what it keeps", seq, asked[6:])
	}
}

func TestR4NoArgumentIsHandedOut(t *testing.T) {
	for _, x := range samples() {
		if !within(x) {
			continue
		}
		given := roomy(x)
		for _, got := range answers(given) {
			scramble(&got)
		}
		want(t, "R4: an argument changed with an answer", given, x)
		if !slices.EqualFunc(spare(given), spare(roomy(x)), equal) {
			t.Errorf("R4: the spare room of %v was handed out", x)
		}
	}
}

// Two lists of one answer do not share memory either, nor two answers.
func TestR4AnswersApart(t *testing.T) {
	inner := raw(api.KTuple, term.Bytes([]byte("abc")), term.Int(1))
	for _, got := range []api.Term{term.Tuple(inner, inner), term.List(inner, inner), term.Copy(raw(api.KList, inner, inner))} {
		scramble(&got.L[0])
		want(t, "R4: two lists of one answer", got.L[1], inner)
	}
	parts := slices.Collect(term.Each(raw(api.KList, inner, inner)))
	scramble(&parts[0])
	want(t, "R4: two parts", parts[1], inner)
	scramble(&parts[1])
	want(t, "R4: two parts", parts[4], inner)
}

// A copy's names stand in memory of its own too.
func TestR4CopyHasItsOwnNames(t *testing.T) {
	for _, x := range samples() {
		given, _ := partsOf(x, 1)
		copied, _ := partsOf(term.Copy(x), 1)
		for i, p := range copied {
			if p.S != "" && unsafe.StringData(p.S) == unsafe.StringData(given[i].S) {
				t.Errorf("R4: Copy shares the name %q", p.S)
			}
		}
	}
}

// P1: what is great without end, or holds itself, is no harm.
func TestP1Anything(t *testing.T) {
	all := []api.Term{endless(), raw(api.KTuple, endless(), endless()), doubled(64), broad(5), nested(1<<16-1, api.Term{}), raw(api.KList, many(1<<20, term.Int(1))...),
		{Kind: math.MinInt, L: many(300, endless())}, {Kind: math.MaxInt, B: make([]byte, 1<<20)}, {Kind: api.KBytes, L: many(2, doubled(64))}}
	for _, a := range all {
		if term.Check(a) == api.OK {
			t.Error("P2.2: what is beyond the limits is not right")
		}
		if n, e := term.Size(a); n != 0 || e == api.OK {
			t.Errorf("R2: Size: %d, %d", n, e)
		}
		want(t, "P2.3: Copy", term.Copy(a), api.Term{})
		for _, b := range append(all, term.Int(1)) {
			wantCmp(t, "P1", a, b, 0, term.Check(a))
			wantCmp(t, "P1", term.Int(1), a, 0, term.Check(a))
		}
		for _, got := range []api.Term{term.Tuple(a, a), term.List(a, a)} {
			if len(got.L) != 2 || got.L[0].Kind != a.Kind || len(got.L[1].L) != len(a.L) || len(got.L[1].B) != len(a.B) {
				t.Error("P2.1: an element is not as it was handed in")
			}
		}
		n := 0
		for range term.Each(a) {
			n++
		}
		if n < 1 || n > api.MaxSize {
			t.Errorf("P2.3: Each: %d parts", n)
		}
	}
}

// R6: the same arguments, the same answers.
func TestR6TheSameAgain(t *testing.T) {
	l := samples()
	for i, x := range l {
		y := l[(i*7+3)%len(l)]
		c, e := term.Cmp(x, y)
		n, e2 := term.Size(x)
		for range 3 {
			if c2, e3 := term.Cmp(roomy(x), roomy(y)); c2 != c || e3 != e {
				t.Errorf("R6: Cmp: %d, %d, then %d, %d", c, e, c2, e3)
			}
			if n2, e3 := term.Size(roomy(x)); n2 != n || e3 != e2 || term.Check(roomy(x)) != e2 {
				t.Errorf("R6: Size: %d, %d, then %d, %d", n, e2, n2, e3)
			}
		}
	}
}
