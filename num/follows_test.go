package num_test

import (
	"testing"

	"rookery/api"
	"rookery/num"
)

func TestP1_5SumLessB(t *testing.T) {
	for _, a := range edgeInts() {
		for _, b := range edgeInts() {
			sum, e := num.Do(api.Add, whole(a), whole(b))
			if e != api.OK {
				continue
			}
			got, e := num.Do(api.Sub, sum, whole(b))
			wantTerm(t, "P1.5: a sum less b is a", got, e, whole(a), api.OK)
		}
	}
}

func TestP1_5Products(t *testing.T) {
	all := edgeCx()
	for _, n := range edgeInts() {
		all = append(all, whole(n))
	}
	for i, a := range all {
		for j := i % 11; j < len(all); j += 11 {
			b := all[j]
			ab, e := num.Do(api.Mul, a, b)
			ba, e2 := num.Do(api.Mul, b, a)
			wantTerm(t, "P1.5: a product does not hang on the order", ba, e2, ab, e)
			if e == api.OK {
				wantConjOfProduct(t, a, b, ab)
			}
		}
	}
}

func wantConjOfProduct(t *testing.T, a, b, ab api.Term) {
	t.Helper()
	want, e := num.One(api.Conj, ab)
	ca, e1 := num.One(api.Conj, a)
	cb, e2 := num.One(api.Conj, b)
	if e != api.OK || e1 != api.OK || e2 != api.OK {
		t.Errorf("P1.5: Conj of %v, %v, %v: %d, %d, %d", ab, a, b, e, e1, e2)
	}
	got, e := num.Do(api.Mul, ca, cb)
	wantTerm(t, "P1.5: Conj of a product", got, e, want, api.OK)
}

func TestP1_5TimesConj(t *testing.T) {
	for _, z := range edgeCx() {
		conj, _ := num.One(api.Conj, z)
		want, sizeE := num.One(api.Size, z)
		got, e := num.Do(api.Mul, z, conj)
		if e != api.OK || sizeE != api.OK {
			continue
		}
		wantTerm(t, "P1.5: times its Conj it is its Size", got, e, want, sizeE)
	}
}

func TestP1_5FourTimesI(t *testing.T) {
	for _, z := range edgeCx() {
		got, e := z, api.OK
		for range 4 {
			if got, e = num.Do(api.Mul, got, cx(0, 1)); e != api.OK {
				t.Fatalf("P1.5: %v times (0, 1): %d", z, e)
			}
		}
		wantTerm(t, "P1.5: four times multiplied by (0, 1)", got, e, z, api.OK)
	}
}
