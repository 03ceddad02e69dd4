package num_test

import (
	"math"
	"math/big"
	"testing"

	"rookery/api"
)

var minusZero = math.Copysign(0, -1)

func whole(n int64) api.Term { return api.Term{Kind: api.KInt, N: n} }

func cx(p, q float64) api.Term { return api.Term{Kind: api.KCx, Z: complex(p, q)} }

// same tells terms apart bit by bit, so that -0 is not taken for 0.
func same(a, b api.Term) bool {
	return a.Kind == b.Kind && a.N == b.N && a.S == b.S && a.Id == b.Id &&
		sameBits(real(a.Z), real(b.Z)) && sameBits(imag(a.Z), imag(b.Z)) &&
		string(a.B) == string(b.B) && len(a.L) == 0 && len(b.L) == 0
}

func sameBits(x, y float64) bool { return math.Float64bits(x) == math.Float64bits(y) }

// wantTerm holds an answer against the one that is asked for; beside an error
// (R2) that is the zero Term.
func wantTerm(t *testing.T, what string, got api.Term, e api.Errno, want api.Term, wantE api.Errno) {
	t.Helper()
	if e != wantE || !same(got, want) {
		t.Errorf("%s: got %+v, %d; want %+v, %d", what, got, e, want, wantE)
	}
}

// edgeInts: numbers at which something turns.
func edgeInts() []int64 {
	out := []int64{0, 1, 2, 3, 7, 10, 1<<31 - 1, 1 << 31, 1<<31 + 1, 1 << 32, 3037000499, 2147483647, 2147483648,
		1 << 53, 1<<53 + 1, 1<<53 + 3, 1 << 61, 1<<61 + 1, api.MaxInt - 1, api.MaxInt}
	for _, n := range out {
		out = append(out, -n)
	}
	return append(out, api.MinInt)
}

// edgeParts: parts at which something turns.
func edgeParts() []float64 {
	out := []float64{1, 2, 3, 0.1, 1.5, 1 + 1.0/(1<<30), 1e-8, 1e17, 1 << 62, 1e154, 1.4e154, 1e200,
		math.MaxFloat64, 1e-154, 1e-162, 1e-200, math.SmallestNonzeroFloat64, 2.2250738585072014e-308}
	for _, x := range out {
		out = append(out, -x)
	}
	return append(out, 0)
}

// edgeCx: complex numbers of edgeParts, each part with each.
func edgeCx() []api.Term {
	var out []api.Term
	for _, p := range edgeParts() {
		for _, q := range edgeParts() {
			out = append(out, cx(p, q))
		}
	}
	return out
}

// notNumbers: terms that are none, each for one reason.
func notNumbers() map[string]api.Term {
	nan, inf := math.NaN(), math.Inf(1)
	return map[string]api.Term{
		"zero term":          {},
		"kind -1":            {Kind: -1},
		"atom":               {Kind: api.KAtom, S: "a"},
		"ref":                {Kind: api.KRef, Id: api.Id{Node: 1, Boot: 1, N: 1}},
		"pid":                {Kind: api.KPid, Id: api.Id{Node: 1, Boot: 1, N: 1}},
		"tuple":              {Kind: api.KTuple, L: []api.Term{whole(1)}},
		"list":               {Kind: api.KList},
		"bytes":              {Kind: api.KBytes, B: []byte{1}},
		"var":                {Kind: api.KVar, S: "X"},
		"any":                {Kind: api.KAny},
		"kind 11":            {Kind: 11},
		"below MinInt":       whole(api.MinInt - 1),
		"beyond MaxInt":      whole(api.MaxInt + 1),
		"least int64":        whole(math.MinInt64),
		"greatest int64":     whole(math.MaxInt64),
		"int with real part": {Kind: api.KInt, N: 1, Z: 1},
		"int with imag part": {Kind: api.KInt, N: 1, Z: 1i},
		"int with NaN":       {Kind: api.KInt, N: 1, Z: complex(nan, 0)},
		"int with S":         {Kind: api.KInt, N: 1, S: "x"},
		"int with Node":      {Kind: api.KInt, N: 1, Id: api.Id{Node: 1}},
		"int with Boot":      {Kind: api.KInt, N: 1, Id: api.Id{Boot: 1}},
		"int with Id.N":      {Kind: api.KInt, N: 1, Id: api.Id{N: 1}},
		"int with B":         {Kind: api.KInt, N: 1, B: []byte{0}},
		"int with L":         {Kind: api.KInt, N: 1, L: []api.Term{{}}},
		"cx with N":          {Kind: api.KCx, Z: 1, N: 1},
		"cx with S":          {Kind: api.KCx, Z: 1, S: "x"},
		"cx with Node":       {Kind: api.KCx, Z: 1, Id: api.Id{Node: 1}},
		"cx with B":          {Kind: api.KCx, Z: 1, B: []byte{0}},
		"cx with L":          {Kind: api.KCx, Z: 1, L: []api.Term{{}}},
		"real part -0":       cx(minusZero, 1),
		"imag part -0":       cx(1, minusZero),
		"both parts -0":      cx(minusZero, minusZero),
		"real part NaN":      cx(nan, 0),
		"imag part NaN":      cx(0, nan),
		"real part +Inf":     cx(inf, 0),
		"imag part +Inf":     cx(0, inf),
		"real part -Inf":     cx(-inf, 0),
		"imag part -Inf":     cx(0, -inf),
	}
}

// step: one sum, difference, product or quotient, worked out as a fraction
// of whole numbers and then rounded once.
func step(sign byte, x, y float64) float64 {
	a, b, out := new(big.Rat), new(big.Rat), new(big.Rat)
	if a.SetFloat64(x) == nil || b.SetFloat64(y) == nil || sign == '/' && y == 0 {
		return plainStep(sign, x, y)
	}
	switch sign {
	case '+':
		out.Add(a, b)
	case '-':
		out.Sub(a, b)
	case '*':
		out.Mul(a, b)
	case '/':
		out.Quo(a, b)
	}
	f, _ := out.Float64()
	return f
}

// plainStep: what no fraction can say, the floats themselves say.
func plainStep(sign byte, x, y float64) float64 {
	switch sign {
	case '+':
		return x + y
	case '-':
		return x - y
	case '*':
		return x * y
	}
	return x / y
}
