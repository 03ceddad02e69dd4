package num_test

import (
	"fmt"
	"math"
	"math/big"
	"testing"

	"rookery/api"
	"rookery/num"
)

func TestP1_1Right(t *testing.T) {
	for _, n := range edgeInts() {
		if !num.Right(whole(n)) {
			t.Errorf("P1.1: the int %d is a number", n)
		}
	}
	for _, z := range edgeCx() {
		if !num.Right(z) {
			t.Errorf("P1.1: %v is a number", z.Z)
		}
	}
	for why, x := range notNumbers() {
		if num.Right(x) {
			t.Errorf("P1.1: %s: %+v is no number", why, x)
		}
	}
}

func TestR3EmptyListsAreZero(t *testing.T) {
	for _, x := range []api.Term{whole(3), cx(1, 2)} {
		x.B, x.L = []byte{}, []api.Term{}
		if !num.Right(x) {
			t.Errorf("R3: %+v is a number", x)
		}
	}
}

func TestP1_1Int(t *testing.T) {
	for _, n := range edgeInts() {
		got, e := num.Int(n)
		wantTerm(t, fmt.Sprintf("P1.1: Int(%d)", n), got, e, whole(n), api.OK)
	}
	for _, n := range []int64{api.MinInt - 1, api.MaxInt + 1, math.MinInt64, math.MaxInt64} {
		got, e := num.Int(n)
		wantTerm(t, fmt.Sprintf("P1.1: Int(%d)", n), got, e, api.Term{}, api.ErrNumRange)
	}
}

func TestP1_1Cx(t *testing.T) {
	for _, x := range edgeCx() {
		got, e := num.Cx(x.Z)
		wantTerm(t, fmt.Sprintf("P1.1: Cx(%v)", x.Z), got, e, x, api.OK)
	}
	for _, c := range [][4]float64{
		{minusZero, 0, 0, 0}, {0, minusZero, 0, 0}, {minusZero, minusZero, 0, 0},
		{minusZero, -2, 0, -2}, {-2, minusZero, -2, 0},
	} {
		got, e := num.Cx(complex(c[0], c[1]))
		wantTerm(t, fmt.Sprintf("P1.1: Cx(%v, %v)", c[0], c[1]), got, e, cx(c[2], c[3]), api.OK)
	}
	for _, bad := range []float64{math.NaN(), math.Inf(1), math.Inf(-1)} {
		for _, z := range []complex128{complex(bad, 0), complex(0, bad), complex(bad, bad)} {
			got, e := num.Cx(z)
			wantTerm(t, fmt.Sprintf("P1.1: Cx(%v)", z), got, e, api.Term{}, api.ErrNumRange)
		}
	}
}

func TestP1_2Examples(t *testing.T) {
	none := api.Term{}
	for _, c := range []struct {
		op         int
		a, b, want api.Term
		e          api.Errno
	}{
		{api.Div, whole(7), whole(-2), whole(-3), api.OK},
		{api.Rem, whole(7), whole(-2), whole(1), api.OK},
		{api.Rem, whole(-7), whole(2), whole(-1), api.OK},
		{api.Rem, whole(-7), whole(-2), whole(-1), api.OK},
		{api.Div, whole(-7), whole(2), whole(-3), api.OK},
		{api.Div, whole(api.MinInt), whole(-1), none, api.ErrNumRange},
		{api.Rem, whole(api.MinInt), whole(-1), whole(0), api.OK},
		{api.Mul, whole(1 << 31), whole(1 << 31), none, api.ErrNumRange},
		{api.Mul, whole(-1 << 31), whole(1 << 31), whole(api.MinInt), api.OK},
		{api.Mul, whole(1 << 32), whole(1 << 32), none, api.ErrNumRange},
		{api.Mul, whole(api.MinInt), whole(api.MinInt), none, api.ErrNumRange},
		{api.Mul, whole(api.MinInt), whole(-1), none, api.ErrNumRange},
		{api.Add, whole(api.MaxInt), whole(1), none, api.ErrNumRange},
		{api.Sub, whole(api.MinInt), whole(1), none, api.ErrNumRange},
		{api.Div, whole(1), whole(0), none, api.ErrNumZero},
		{api.Rem, whole(1), whole(0), none, api.ErrNumZero},
		{api.Div, whole(0), whole(0), none, api.ErrNumZero},
		{api.Add, whole(1), cx(0, 2), cx(1, 2), api.OK},
		{api.Sub, whole(1), cx(0, 2), cx(1, -2), api.OK},
		{api.Mul, cx(0, 1), cx(0, 1), cx(-1, 0), api.OK},
		{api.Mul, cx(1, 2), cx(3, -1), cx(5, 5), api.OK},
		{api.Div, cx(5, 10), cx(1, 2), cx(5, 0), api.OK},
		{api.Div, whole(1), cx(0, 0), none, api.ErrNumZero},
		{api.Div, cx(1, 0), whole(0), none, api.ErrNumZero},
		{api.Div, cx(0, 0), cx(0, 0), none, api.ErrNumZero},
		{api.Mul, whole(0), cx(-1, -1), cx(0, 0), api.OK},
		{api.Div, cx(0, 0), cx(-1, 0), cx(0, 0), api.OK},
		{api.Mul, cx(1e300, 0), cx(1e300, 0), none, api.ErrNumRange},
		{api.Add, cx(0, math.MaxFloat64), cx(0, math.MaxFloat64), none, api.ErrNumRange},
		{api.Div, cx(1, 0), cx(1e-200, 0), none, api.ErrNumRange},
		{api.Div, cx(0, 0), cx(1e-200, 0), none, api.ErrNumRange},
		{api.Div, cx(1, 0), cx(1e200, 0), cx(0, 0), api.OK},
	} {
		got, e := num.Do(c.op, c.a, c.b)
		wantTerm(t, fmt.Sprintf("P1.2: Do(%d, %v, %v)", c.op, c.a, c.b), got, e, c.want, c.e)
	}
}

// An int that no float64 is equal to goes to the nearest one, of two to the even one.
func TestP1_2IntAsFloat(t *testing.T) {
	for _, c := range []struct {
		n    int64
		want float64
	}{
		{1<<53 + 1, 1 << 53}, {1<<53 + 3, 1<<53 + 4}, {1<<54 + 3, 1<<54 + 4}, {1<<54 + 1, 1 << 54},
		{-1<<53 - 1, -1 << 53}, {-1<<53 - 3, -1<<53 - 4}, {api.MaxInt, 1 << 62}, {api.MinInt, -1 << 62},
	} {
		got, e := num.Do(api.Add, whole(c.n), cx(0, 0))
		wantTerm(t, fmt.Sprintf("P1.2: %d + (0, 0)", c.n), got, e, cx(c.want, 0), api.OK)
		got, e = num.Do(api.Sub, cx(0, 1), whole(c.n))
		wantTerm(t, fmt.Sprintf("P1.2: (0, 1) - %d", c.n), got, e, cx(-c.want, 1), api.OK)
	}
}

func TestP1_2WrongInputs(t *testing.T) {
	ops := []int{math.MinInt, -1, 0, 6, 7, math.MaxInt}
	for _, op := range ops {
		for _, x := range []api.Term{whole(1), cx(1, 1), {}} {
			got, e := num.Do(op, x, x)
			wantTerm(t, fmt.Sprintf("P1.2: Do(%d)", op), got, e, api.Term{}, api.ErrNumKind)
		}
	}
	for op := api.Add; op <= api.Rem; op++ {
		for why, bad := range notNumbers() {
			for _, good := range []api.Term{whole(0), whole(1), cx(0, 0), cx(1, 1), bad} {
				got, e := num.Do(op, bad, good)
				wantTerm(t, "P1.2: first is "+why, got, e, api.Term{}, api.ErrNumKind)
				got, e = num.Do(op, good, bad)
				wantTerm(t, "P1.2: second is "+why, got, e, api.Term{}, api.ErrNumKind)
			}
		}
	}
	for _, c := range [][2]api.Term{{whole(1), cx(1, 0)}, {cx(1, 0), whole(1)}, {cx(1, 0), cx(1, 0)}, {cx(1, 0), whole(0)}, {whole(1), cx(0, 0)}} {
		got, e := num.Do(api.Rem, c[0], c[1])
		wantTerm(t, fmt.Sprintf("P1.2: Rem of %v and %v", c[0], c[1]), got, e, api.Term{}, api.ErrNumKind)
	}
}

// wantInts: whole numbers of any size, which alone are held against the range.
func wantInts(op int, a, b int64) (api.Term, api.Errno) {
	x, y, out := big.NewInt(a), big.NewInt(b), new(big.Int)
	if b == 0 && op >= api.Div {
		return api.Term{}, api.ErrNumZero
	}
	switch op {
	case api.Add:
		out.Add(x, y)
	case api.Sub:
		out.Sub(x, y)
	case api.Mul:
		out.Mul(x, y)
	case api.Div:
		out.Quo(x, y)
	case api.Rem:
		out.Sub(x, out.Mul(y, new(big.Int).Quo(x, y)))
	}
	if out.Cmp(big.NewInt(api.MinInt)) < 0 || out.Cmp(big.NewInt(api.MaxInt)) > 0 {
		return api.Term{}, api.ErrNumRange
	}
	return whole(out.Int64()), api.OK
}

func TestP1_2Ints(t *testing.T) {
	for op := api.Add; op <= api.Rem; op++ {
		for _, a := range edgeInts() {
			for _, b := range edgeInts() {
				got, e := num.Do(op, whole(a), whole(b))
				want, wantE := wantInts(op, a, b)
				wantTerm(t, fmt.Sprintf("P1.2: Do(%d, %d, %d)", op, a, b), got, e, want, wantE)
			}
		}
	}
}

func wantParts(x, y float64) (api.Term, api.Errno) {
	if math.IsNaN(x-x) || math.IsNaN(y-y) {
		return api.Term{}, api.ErrNumRange
	}
	return cx(x+0, y+0), api.OK
}

func wantCx(op int, a, b complex128) (api.Term, api.Errno) {
	p, q, r, s := real(a), imag(a), real(b), imag(b)
	switch op {
	case api.Add:
		return wantParts(step('+', p, r), step('+', q, s))
	case api.Sub:
		return wantParts(step('-', p, r), step('-', q, s))
	case api.Mul:
		return wantParts(step('-', step('*', p, r), step('*', q, s)), step('+', step('*', p, s), step('*', q, r)))
	}
	if r == 0 && s == 0 {
		return api.Term{}, api.ErrNumZero
	}
	d := step('+', step('*', r, r), step('*', s, s))
	x := step('+', step('*', p, r), step('*', q, s))
	y := step('-', step('*', q, r), step('*', p, s))
	return wantParts(step('/', x, d), step('/', y, d))
}

func TestP1_2Complex(t *testing.T) {
	all := edgeCx()
	for op := api.Add; op <= api.Div; op++ {
		for i, a := range all {
			for j := i % 61; j < len(all); j += 61 {
				b := all[j]
				got, e := num.Do(op, a, b)
				want, wantE := wantCx(op, a.Z, b.Z)
				wantTerm(t, fmt.Sprintf("P1.2, R8: Do(%d, %v, %v)", op, a.Z, b.Z), got, e, want, wantE)
			}
		}
	}
}

func TestP1_2Mixed(t *testing.T) {
	for op := api.Add; op <= api.Div; op++ {
		for _, n := range edgeInts() {
			f, _ := new(big.Float).SetInt64(n).Float64()
			for i, z := range edgeCx() {
				if i%29 != 0 {
					continue
				}
				got, e := num.Do(op, whole(n), z)
				want, wantE := wantCx(op, complex(f, 0), z.Z)
				wantTerm(t, fmt.Sprintf("P1.2: Do(%d, %d, %v)", op, n, z.Z), got, e, want, wantE)
				got, e = num.Do(op, z, whole(n))
				want, wantE = wantCx(op, z.Z, complex(f, 0))
				wantTerm(t, fmt.Sprintf("P1.2: Do(%d, %v, %d)", op, z.Z, n), got, e, want, wantE)
			}
		}
	}
}

func TestP1_3Ints(t *testing.T) {
	for _, n := range edgeInts() {
		neg, negE := wantInts(api.Sub, 0, n)
		size, sizeE := wantInts(api.Mul, n, n)
		for _, c := range []struct {
			op   int
			want api.Term
			e    api.Errno
		}{{api.Neg, neg, negE}, {api.Conj, whole(n), api.OK}, {api.Re, whole(n), api.OK}, {api.Im, whole(0), api.OK}, {api.Size, size, sizeE}} {
			got, e := num.One(c.op, whole(n))
			wantTerm(t, fmt.Sprintf("P1.3: One(%d, %d)", c.op, n), got, e, c.want, c.e)
		}
	}
	got, e := num.One(api.Neg, whole(api.MinInt))
	wantTerm(t, "P1.3: Neg of MinInt", got, e, api.Term{}, api.ErrNumRange)
	got, e = num.One(api.Size, whole(-2147483648))
	wantTerm(t, "P1.3: Size of -2^31", got, e, api.Term{}, api.ErrNumRange)
	got, e = num.One(api.Size, whole(-2147483647))
	wantTerm(t, "P1.3: Size of 1 - 2^31", got, e, whole(2147483647*2147483647), api.OK)
}

func TestP1_3Complex(t *testing.T) {
	for _, z := range edgeCx() {
		p, q := real(z.Z), imag(z.Z)
		size, sizeE := wantParts(step('+', step('*', p, p), step('*', q, q)), 0)
		for _, c := range []struct {
			op   int
			want api.Term
			e    api.Errno
		}{{api.Neg, cx(0-p, 0-q), api.OK}, {api.Conj, cx(p, 0-q), api.OK}, {api.Re, cx(p, 0), api.OK}, {api.Im, cx(q, 0), api.OK}, {api.Size, size, sizeE}} {
			got, e := num.One(c.op, z)
			wantTerm(t, fmt.Sprintf("P1.3: One(%d, %v)", c.op, z.Z), got, e, c.want, c.e)
		}
	}
	got, e := num.One(api.Size, cx(3, 4))
	wantTerm(t, "P1.3: Size of (3, 4)", got, e, cx(25, 0), api.OK)
	got, e = num.One(api.Size, cx(1e200, 0))
	wantTerm(t, "P1.3: Size of (1e200, 0)", got, e, api.Term{}, api.ErrNumRange)
}

func TestP1_3WrongInputs(t *testing.T) {
	for _, op := range []int{math.MinInt, -1, 0, 6, math.MaxInt} {
		for _, x := range []api.Term{whole(api.MinInt), cx(1e200, 1), {}} {
			got, e := num.One(op, x)
			wantTerm(t, fmt.Sprintf("P1.3: One(%d)", op), got, e, api.Term{}, api.ErrNumKind)
		}
	}
	for op := api.Neg; op <= api.Size; op++ {
		for why, bad := range notNumbers() {
			got, e := num.One(op, bad)
			wantTerm(t, "P1.3: "+why, got, e, api.Term{}, api.ErrNumKind)
		}
	}
}

// inOrder: numbers, each ahead of the next.
func inOrder() []api.Term {
	return []api.Term{
		whole(api.MinInt), whole(api.MinInt + 1), whole(-1), whole(0), whole(1), whole(1 << 53), whole(1<<53 + 1),
		whole(api.MaxInt - 1), whole(api.MaxInt),
		cx(-math.MaxFloat64, 9), cx(-5, 0), cx(-1, math.MaxFloat64), cx(0, -1), cx(0, 0), cx(0, math.SmallestNonzeroFloat64),
		cx(math.SmallestNonzeroFloat64, -9), cx(1, -math.MaxFloat64), cx(1, 2), cx(1, 3), cx(2, 0), cx(math.MaxFloat64, 0),
	}
}

func TestP1_4Cmp(t *testing.T) {
	for i, a := range inOrder() {
		for j, b := range inOrder() {
			want := 0
			if i < j {
				want = -1
			} else if i > j {
				want = 1
			}
			if got, e := num.Cmp(a, b); got != want || e != api.OK {
				t.Errorf("P1.4: Cmp(%v, %v): %d, %d; want %d", a, b, got, e, want)
			}
		}
	}
	for why, bad := range notNumbers() {
		for _, c := range [][2]api.Term{{bad, whole(1)}, {whole(1), bad}, {cx(1, 1), bad}, {bad, cx(1, 1)}, {bad, bad}} {
			if got, e := num.Cmp(c[0], c[1]); got != 0 || e != api.ErrNumKind {
				t.Errorf("P1.4: %s: Cmp(%v, %v): %d, %d", why, c[0], c[1], got, e)
			}
		}
	}
}
