package term_test

import (
	"cmp"
	"fmt"
	"testing"

	"rookery/api"
	"rookery/term"
)

func wantCmp(t *testing.T, what string, a, b api.Term, order int, e api.Errno) {
	t.Helper()
	if got, gotE := term.Cmp(a, b); got != order || gotE != e {
		t.Errorf("P2.3: %s: Cmp: %d, %d; want %d, %d", what, got, gotE, order, e)
	}
	if got := term.Same(a, b); got != (order == 0 && e == api.OK) {
		t.Errorf("P2.3: %s: Same: %v", what, got)
	}
}

func TestP2_3Order(t *testing.T) {
	all := inOrder()
	again := inOrder()
	for i, a := range all {
		for j, b := range again {
			what := fmt.Sprintf("%d and %d", i, j)
			wantCmp(t, what, a, b, cmp.Compare(i, j), api.OK)
			wantCmp(t, what+" in lists", nested(20, a), nested(20, b), cmp.Compare(i, j), api.OK)
		}
	}
}

func TestP2_3OrderExamples(t *testing.T) {
	wantCmp(t, "{9} and {1,1}", term.Tuple(term.Int(9)), term.Tuple(term.Int(1), term.Int(1)), -1, api.OK)
	wantCmp(t, "[9] and [1,1]", term.List(term.Int(9)), term.List(term.Int(1), term.Int(1)), 1, api.OK)
	a, b := term.Int(5), term.Int(5)
	a.Z, a.B, a.L = complex(minusZero, minusZero), []byte{}, []api.Term{}
	wantCmp(t, "R3: -0 and empty lists do not differ", a, b, 0, api.OK)
	for _, n := range []int{1, 255, 256} {
		x, y := many(n, term.Int(1)), many(n, term.Int(1))
		wantCmp(t, "long lists", raw(api.KList, x...), raw(api.KList, y...), 0, api.OK)
		y[n-1] = term.Int(2)
		wantCmp(t, "the last element decides", raw(api.KList, x...), raw(api.KList, y...), -1, api.OK)
		wantCmp(t, "the last element decides", raw(api.KTuple, y...), raw(api.KTuple, x...), 1, api.OK)
		x[0] = term.Atom("a")
		wantCmp(t, "the first element that differs decides", raw(api.KTuple, x...), raw(api.KTuple, y...), 1, api.OK)
	}
}

// badTerms: one for each error.
func badTerms() map[api.Errno]api.Term {
	return map[api.Errno]api.Term{
		api.ErrTermDeep: nested(24, term.Int(1)), api.ErrTermSize: term.Bytes(make([]byte, 4096)), api.ErrTermKind: {},
		api.ErrTermField: {Kind: api.KInt, S: "x"}, api.ErrTermValue: term.Atom(""), api.ErrTermWide: raw(api.KList, many(257, term.Int(1))...),
	}
}

func TestP2_3CmpErrors(t *testing.T) {
	for e, bad := range badTerms() {
		wantCmp(t, "the same that is not right", bad, bad, 0, e)
		for _, good := range inOrder() {
			wantCmp(t, "first is not right", bad, good, 0, e)
			wantCmp(t, "second is not right", good, bad, 0, e)
		}
		for _, other := range badTerms() {
			wantCmp(t, "R1: both are not right", bad, other, 0, e)
		}
	}
	wantCmp(t, "patterns", api.Term{Kind: api.KAny}, api.Term{Kind: api.KAny}, 0, api.ErrTermKind)
}

func TestP2_3Size(t *testing.T) {
	for _, c := range []struct {
		x    api.Term
		size int
	}{
		{term.Tuple(term.Int(1), term.Atom("a")), 3},
		{term.Int(1), 1}, {term.Atom("abc"), 1}, {raw(api.KList), 1}, {term.Bytes(nil), 1}, {term.Bytes([]byte("ab")), 3},
		{raw(api.KTuple, term.Bytes([]byte("ab")), raw(api.KList)), 5}, {nested(23, term.Bytes([]byte("abc"))), 27},
		{ofSize(4096, 0), 4096}, {ofSize(96, 4000), 4096}, {ofSize(4095, 1), 4096}, {term.Bytes(make([]byte, 4095)), 4096},
	} {
		if n, e := term.Size(c.x); n != c.size || e != api.OK {
			t.Errorf("P2.3: Size: %d, %d; want %d", n, e, c.size)
		}
	}
	for e, bad := range badTerms() {
		for _, x := range []api.Term{bad, raw(api.KTuple, term.Int(1), bad)} {
			if n, got := term.Size(x); n != 0 || got != e {
				t.Errorf("P2.3: Size: %d, %d; want the error %d", n, got, e)
			}
		}
	}
}

func TestP2_3Copy(t *testing.T) {
	for _, x := range append(inOrder(), raw(api.KTuple, inOrder()...), nested(23, term.Int(1)), ofSize(4096-9, 9)) {
		got := term.Copy(x)
		want(t, "P2.3: Copy", got, x)
		scramble(&got)
	}
	for e, bad := range badTerms() {
		want(t, fmt.Sprint("P2.3: Copy of what is not right: ", e), term.Copy(bad), api.Term{})
		want(t, fmt.Sprint("P2.3: Copy of what is not right: ", e), term.Copy(raw(api.KList, term.Int(1), bad)), api.Term{})
	}
}
