package num_test

import (
	"math"
	"testing"

	"rookery/api"
	"rookery/num"
)

// anything: numbers and terms that are none, as one list.
func anything() []api.Term {
	var out []api.Term
	for _, x := range notNumbers() {
		out = append(out, x)
	}
	for _, n := range edgeInts() {
		out = append(out, whole(n))
	}
	for i, z := range edgeCx() {
		if i%13 == 0 {
			out = append(out, z)
		}
	}
	return out
}

// P1 (none panics), R2 (zero beside an error), R6 (the same again), and that
// what is answered is a number with all its other fields zero.
func TestP1P2Anything(t *testing.T) {
	ops := []int{math.MinInt, -1, 0, 1, 2, 3, 4, 5, 6, 100, math.MaxInt}
	for _, a := range anything() {
		for _, op := range ops {
			got, e := num.One(op, a)
			wantSound(t, got, e)
			for _, b := range anything() {
				got, e := num.Do(op, a, b)
				wantSound(t, got, e)
				again, e2 := num.Do(op, a, b)
				wantTerm(t, "R6: the same again", again, e2, got, e)
			}
		}
		for _, b := range anything() {
			if c, e := num.Cmp(a, b); c < -1 || c > 1 || e != api.OK && c != 0 {
				t.Errorf("Cmp(%v, %v): %d, %d", a, b, c, e)
			}
		}
	}
}

func wantSound(t *testing.T, got api.Term, e api.Errno) {
	t.Helper()
	if e == api.OK && !num.Right(got) || e != api.OK && !same(got, api.Term{}) {
		t.Errorf("R2: %+v, %d", got, e)
	}
	if got.B != nil || got.L != nil {
		t.Errorf("R4: the answer holds a list: %+v", got)
	}
}

// A number that comes with empty lists, or an int whose Z is -0 (which is equal
// to 0), is answered without them.
func TestR4NothingIsHandedThrough(t *testing.T) {
	room := []byte{1, 2, 3}
	terms := []api.Term{whole(5), cx(5, 0)}
	for _, x := range []api.Term{
		{Kind: api.KInt, N: 5, Z: complex(minusZero, minusZero), B: room[:0], L: terms[:0]},
		{Kind: api.KCx, Z: 5, B: room[:0], L: terms[:0]},
	} {
		want := api.Term{Kind: x.Kind, N: x.N, Z: x.Z + 0}
		for _, op := range []int{api.Conj, api.Re} {
			got, e := num.One(op, x)
			wantTerm(t, "R4: One", got, e, want, api.OK)
			wantSound(t, got, e)
		}
		got, e := num.Do(api.Add, x, whole(0))
		wantTerm(t, "R4: Do", got, e, want, api.OK)
		wantSound(t, got, e)
	}
	if string(room) != "\x01\x02\x03" || !same(terms[0], whole(5)) || !same(terms[1], cx(5, 0)) {
		t.Errorf("R4: the spare room was changed: %v, %v", room, terms)
	}
}
