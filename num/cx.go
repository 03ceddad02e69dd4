package num

import (
	"math"

	"rookery/api"
)

func finite(x float64) bool { return !math.IsNaN(x) && !math.IsInf(x, 0) }

func rightPart(x float64) bool { return finite(x) && (x != 0 || !math.Signbit(x)) }

func cleanPart(x float64) float64 {
	if x == 0 {
		return 0
	}
	return x
}

// asCx: the language's conversion takes the nearest float64, of two the even one.
func asCx(t api.Term) complex128 {
	if t.Kind == api.KInt {
		return complex(float64(t.N), 0)
	}
	return t.Z
}

// times, plus and minus convert what is a float64 already: without that the
// language lets a machine fuse two steps into one and skip a rounding.
func times(x, y float64) float64 { return float64(x * y) }

func plus(x, y float64) float64 { return float64(x + y) }

func minus(x, y float64) float64 { return float64(x - y) }

func doCx(op int, a, b complex128) (api.Term, api.Errno) {
	if op == api.Div && b == 0 {
		return api.Term{}, api.ErrNumZero
	}
	return pairOfCx(a, b)[op]()
}

func pairOfCx(a, b complex128) [api.Div + 1]func() (api.Term, api.Errno) {
	p, q := real(a), imag(a)
	r, s := real(b), imag(b)
	return [api.Div + 1]func() (api.Term, api.Errno){
		api.Add: func() (api.Term, api.Errno) { return Cx(complex(plus(p, r), plus(q, s))) },
		api.Sub: func() (api.Term, api.Errno) { return Cx(complex(minus(p, r), minus(q, s))) },
		api.Mul: func() (api.Term, api.Errno) {
			x := minus(times(p, r), times(q, s))
			y := plus(times(p, s), times(q, r))
			return Cx(complex(x, y))
		},
		api.Div: func() (api.Term, api.Errno) {
			d := square(b)
			x := plus(times(p, r), times(q, s)) / d
			y := minus(times(q, r), times(p, s)) / d
			return Cx(complex(x, y))
		},
	}
}

func oneCx(z complex128) [api.Size + 1]func() (api.Term, api.Errno) {
	p, q := real(z), imag(z)
	return [api.Size + 1]func() (api.Term, api.Errno){
		api.Neg:  func() (api.Term, api.Errno) { return Cx(complex(-p, -q)) },
		api.Conj: func() (api.Term, api.Errno) { return Cx(complex(p, -q)) },
		api.Re:   func() (api.Term, api.Errno) { return Cx(complex(p, 0)) },
		api.Im:   func() (api.Term, api.Errno) { return Cx(complex(q, 0)) },
		api.Size: func() (api.Term, api.Errno) { return Cx(complex(square(z), 0)) },
	}
}

func square(z complex128) float64 {
	return plus(times(real(z), real(z)), times(imag(z), imag(z)))
}
