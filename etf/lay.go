package etf

import (
	"math"

	"rookery/api"
	"rookery/atom"
)

// writer lays parts behind one another; names are those that came so far.
type writer struct {
	b     []byte
	names *atom.Table
}

// part: t is right: else this might not end.
func (w *writer) part(t api.Term) {
	w.b = append(w.b, byte(t.Kind))
	switch t.Kind {
	case api.KInt:
		w.number(folded(t.N))
	case api.KCx:
		w.bits(real(t.Z))
		w.bits(imag(t.Z))
	case api.KAtom:
		w.name(t.S)
	case api.KRef, api.KPid:
		w.b = append(w.b, byte(t.Id.Node))
		w.number(uint64(t.Id.Boot))
		w.number(t.Id.N)
	case api.KTuple, api.KList:
		w.number(uint64(len(t.L)))
		for _, x := range t.L {
			w.part(x)
		}
	case api.KBytes:
		w.number(uint64(len(t.B)))
		w.b = append(w.b, t.B...)
	}
}

// number: a V.
func (w *writer) number(n uint64) {
	for n > low7 {
		w.b = append(w.b, more|byte(n))
		n >>= 7
	}
	w.b = append(w.b, byte(n))
}

func (w *writer) bits(x float64) {
	n := math.Float64bits(x)
	for shift := 56; shift >= 0; shift -= 8 {
		w.b = append(w.b, byte(n>>shift))
	}
}

// name: a right term has no more parts than the table has room for names, so
// that each one gets a number.
func (w *writer) name(s string) {
	next := w.names.Len()
	n, _ := w.names.Put(s)
	w.number(uint64(n))
	if n == next {
		w.b = append(append(w.b, byte(len(s))), s...)
	}
}

// folded: ints as numbers from 0 on, those near 0 as small ones.
func folded(n int64) uint64 {
	if n < 0 {
		return 2*uint64(-n-1) + 1
	}
	return 2 * uint64(n)
}

// unfolded: the int that n is folded; each number of 64 bits is some int64's.
func unfolded(n uint64) int64 {
	half := int64(n >> 1)
	if n&1 == 1 {
		return -half - 1
	}
	return half
}
