package term_test

import (
	"testing"

	"rookery/api"
	"rookery/term"
)

// made: right terms, many of which are alike.
func made(n int) []api.Term {
	m := newMaker(24)
	var out []api.Term
	for range n {
		out = append(out, m.right(4))
	}
	return out
}

func order(t *testing.T, a, b api.Term) int {
	t.Helper()
	c, e := term.Cmp(a, b)
	if e != api.OK || c < -1 || c > 1 {
		t.Errorf("P2.4: Cmp(%v, %v): %d, %d", a, b, c, e)
	}
	return c
}

func TestP2_4Opposite(t *testing.T) {
	all := append(made(300), inOrder()...)
	for _, a := range all {
		for _, b := range all {
			c := order(t, a, b)
			if back := order(t, b, a); back != -c {
				t.Errorf("P2.4: Cmp of %v and %v is %d, the other way round %d", a, b, c, back)
			}
			if alike := equal(a, b); term.Same(a, b) != alike || (c == 0) != alike {
				t.Errorf("P2.4: Same(%v, %v): %v; Cmp: %d", a, b, !alike, c)
			}
		}
	}
}

func TestP2_4Ahead(t *testing.T) {
	all := made(90)
	for _, a := range all {
		for _, b := range all {
			if order(t, a, b) > 0 {
				continue
			}
			for _, c := range all {
				if order(t, b, c) <= 0 && order(t, a, c) > 0 {
					t.Errorf("P2.4: %v, %v, %v are in order by twos, but not the first and the last", a, b, c)
				}
			}
		}
	}
}

func TestP2_4Parts(t *testing.T) {
	for _, x := range append(made(500), raw(api.KTuple, inOrder()...), nested(23, term.Int(1)), ofSize(4000, 96)) {
		size, e := term.Size(x)
		if e != api.OK {
			t.Errorf("P2.4: Size(%v): %d", x, e)
		}
		first := true
		for p := range term.Each(x) {
			n, e := term.Size(p)
			if e != api.OK || term.Check(p) != api.OK || !first && n >= size {
				t.Errorf("P2.4: part %v: its size is %d of %d, %d", p, n, size, e)
			}
			first = false
		}
		sum := 1 + len(x.B)
		for _, p := range x.L {
			n, _ := term.Size(p)
			sum += n
		}
		if sum != size {
			t.Errorf("P2.4: the size of %v is %d; of its parts %d", x, size, sum)
		}
	}
}
