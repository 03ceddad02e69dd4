package term_test

import (
	"math"
	"strings"
	"testing"

	"rookery/api"
	"rookery/term"
)

// The makers take what is handed in, right or not.
func TestP2_1Plain(t *testing.T) {
	for _, n := range []int64{0, 1, -1, api.MinInt, api.MaxInt, api.MinInt - 1, api.MaxInt + 1, math.MinInt64, math.MaxInt64} {
		want(t, "P2.1: Int", term.Int(n), api.Term{Kind: 1, N: n})
	}
	for _, s := range []string{"a", "", "A", "\xff", "a b", strings.Repeat("a", 33), strings.Repeat("x", 70000)} {
		want(t, "P2.1: Atom", term.Atom(s), api.Term{Kind: 3, S: s})
	}
	for _, i := range []api.Id{id(1, 1, 1), {}, id(-1, 0, 0), id(65, 2, 3), id(math.MaxInt, math.MaxUint32, math.MaxUint64)} {
		want(t, "P2.1: Ref", term.Ref(i), api.Term{Kind: 4, Id: i})
		want(t, "P2.1: Pid", term.Pid(i), api.Term{Kind: 5, Id: i})
	}
	for _, b := range [][]byte{nil, {}, {0}, {1, 2, 255}, make([]byte, 5000)} {
		want(t, "P2.1: Bytes", term.Bytes(b), api.Term{Kind: 8, B: b})
	}
}

func TestP2_1Lists(t *testing.T) {
	wrong := api.Term{Kind: 77, N: 1 << 63 >> 1, Z: 1i, S: "?", Id: id(0, 0, 7), B: []byte{1}, L: []api.Term{{}, {Kind: -1}}}
	for _, l := range [][]api.Term{
		nil, {}, {term.Int(1)}, {term.Int(2), term.Int(1)}, inOrder(), {{}}, {wrong, {}, wrong},
		many(256, term.Int(1)), many(257, term.Int(1)), many(5000, term.Atom("A")),
		{nested(30, wrong), term.Bytes(make([]byte, 5000))},
	} {
		want(t, "P2.1: Tuple", term.Tuple(l...), api.Term{Kind: 6, L: l})
		want(t, "P2.1: List", term.List(l...), api.Term{Kind: 7, L: l})
	}
	want(t, "P2.1: Tuple()", term.Tuple(), api.Term{Kind: 6})
	want(t, "P2.1: List()", term.List(), api.Term{Kind: 7})
	want(t, "P2.1: Tuple(1, a)", term.Tuple(term.Int(1), term.Atom("a")), raw(6, term.Int(1), term.Atom("a")))
}

func TestP2_1ListOfItsOwn(t *testing.T) {
	for name, make := range map[string]func(...api.Term) api.Term{"Tuple": term.Tuple, "List": term.List} {
		for _, n := range []int{1, 2, 256, 257, 5000} {
			l := many(n, term.Int(1))
			got := make(l...)
			l[0], l[n-1] = term.Int(7), term.Int(8)
			want(t, "P2.1: "+name+" keeps the list", got, raw(got.Kind, many(n, term.Int(1))...))
			got.L[0] = term.Int(9)
			got.L = append(got.L, term.Int(9))
			if l[0].N == 9 {
				t.Errorf("P2.1: %s hands out the list", name)
			}
		}
	}
}

func TestP2_1BytesOfItsOwn(t *testing.T) {
	for _, n := range []int{1, 3, 4096, 70000} {
		b := make([]byte, n)
		got := term.Bytes(b)
		b[0], b[n-1] = 7, 7
		want(t, "P2.1: Bytes keeps the bytes", got, api.Term{Kind: 8, B: make([]byte, n)})
		got.B[0] = 9
		if b[0] != 7 {
			t.Error("P2.1: Bytes hands out the bytes")
		}
	}
}
