// Package num is layer 1: see shared/doc/01-num.md.
package num

import (
	"cmp"

	"rookery/api"
)

// Right: is t a number?
func Right(t api.Term) bool {
	if t.S != "" || t.Id != (api.Id{}) || len(t.B) > 0 || len(t.L) > 0 {
		return false
	}
	switch t.Kind {
	case api.KInt:
		return t.Z == 0 && inRange(t.N)
	case api.KCx:
		return t.N == 0 && rightPart(real(t.Z)) && rightPart(imag(t.Z))
	}
	return false
}

// Int: the int n.
func Int(n int64) (api.Term, api.Errno) {
	if !inRange(n) {
		return api.Term{}, api.ErrNumRange
	}
	return api.Term{Kind: api.KInt, N: n}, api.OK
}

// Cx: the complex number z, cleaned.
func Cx(z complex128) (api.Term, api.Errno) {
	p, q := real(z), imag(z)
	if !finite(p) || !finite(q) {
		return api.Term{}, api.ErrNumRange
	}
	return api.Term{Kind: api.KCx, Z: complex(cleanPart(p), cleanPart(q))}, api.OK
}

// Do: what op makes of two numbers.
func Do(op int, a, b api.Term) (api.Term, api.Errno) {
	if op < api.Add || op > api.Rem || !Right(a) || !Right(b) {
		return api.Term{}, api.ErrNumKind
	}
	if a.Kind == api.KInt && b.Kind == api.KInt {
		return doInts(op, a.N, b.N)
	}
	if op == api.Rem {
		return api.Term{}, api.ErrNumKind
	}
	return doCx(op, asCx(a), asCx(b))
}

// One: what op makes of a number.
func One(op int, a api.Term) (api.Term, api.Errno) {
	if op < api.Neg || op > api.Size || !Right(a) {
		return api.Term{}, api.ErrNumKind
	}
	if a.Kind == api.KInt {
		return oneInt(a.N)[op]()
	}
	return oneCx(a.Z)[op]()
}

// Cmp: the order of two numbers.
func Cmp(a, b api.Term) (int, api.Errno) {
	if !Right(a) || !Right(b) {
		return 0, api.ErrNumKind
	}
	if a.Kind != b.Kind {
		return cmp.Compare(a.Kind, b.Kind), api.OK
	}
	if a.Kind == api.KInt {
		return cmp.Compare(a.N, b.N), api.OK
	}
	if c := cmp.Compare(real(a.Z), real(b.Z)); c != 0 {
		return c, api.OK
	}
	return cmp.Compare(imag(a.Z), imag(b.Z)), api.OK
}
