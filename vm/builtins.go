package vm

import (
	"rookery/api"
	"rookery/num"
)

// The builtins that ask nothing; those ahead of cx are asked for.
const (
	cx = iota + 20
	conj
	length
	elem
	hd
	tl
	cons
)

// builtins: what each makes of its arguments, or what is wrong with these.
func builtins(args []api.Term) [cons + 1]func() (api.Term, api.Errno) {
	return [...]func() (api.Term, api.Errno){
		cx:     func() (api.Term, api.Errno) { return complexOf(args[0], args[1]) },
		conj:   func() (api.Term, api.Errno) { return num.One(api.Conj, args[0]) },
		length: func() (api.Term, api.Errno) { return lengthOf(args[0]) },
		elem:   func() (api.Term, api.Errno) { return element(args[0], args[1]) },
		hd: func() (api.Term, api.Errno) {
			if !filled(args[0]) {
				return api.Term{}, api.ErrArg
			}
			return args[0].L[0], api.OK
		},
		tl: func() (api.Term, api.Errno) {
			if !filled(args[0]) {
				return api.Term{}, api.ErrArg
			}
			return joined(api.KList, args[0].L[1:])
		},
		cons: func() (api.Term, api.Errno) {
			if args[1].Kind != api.KList {
				return api.Term{}, api.ErrArg
			}
			return joined(api.KList, append(args[:1:1], args[1].L...))
		},
	}
}

func complexOf(a, b api.Term) (api.Term, api.Errno) {
	if a.Kind != api.KInt || b.Kind != api.KInt {
		return api.Term{}, api.ErrArg
	}
	return num.Cx(complex(float64(a.N), float64(b.N)))
}

func lengthOf(t api.Term) (api.Term, api.Errno) {
	switch t.Kind {
	case api.KTuple, api.KList:
		return num.Int(int64(len(t.L)))
	case api.KBytes:
		return num.Int(int64(len(t.B)))
	}
	return api.Term{}, api.ErrArg
}

// element: the n-th one of a tuple.
func element(n, t api.Term) (api.Term, api.Errno) {
	if n.Kind != api.KInt || t.Kind != api.KTuple || n.N < 1 || n.N > int64(len(t.L)) {
		return api.Term{}, api.ErrArg
	}
	return t.L[n.N-1], api.OK
}

// filled: is it a list that is not empty?
func filled(t api.Term) bool { return t.Kind == api.KList && len(t.L) > 0 }
