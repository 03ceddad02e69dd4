package term

import (
	"iter"
	"slices"

	"rookery/api"
)

// parts: how deep each part stands, and where it is. It goes on without end in
// a term that holds itself, so whoever ranges over it must stop somewhere.
func parts(t *api.Term, deep int) iter.Seq2[int, *api.Term] {
	return func(yield func(int, *api.Term) bool) {
		if !yield(deep, t) {
			return
		}
		for i := range t.L {
			for d, p := range parts(&t.L[i], deep+1) {
				if !yield(d, p) {
					return
				}
			}
		}
	}
}

// weigh: t's size, or what is wrong with it.
func weigh(t api.Term, k *kinds) (int, api.Errno) {
	size := 0
	for deep, p := range parts(&t, 1) {
		size += 1 + len(p.B)
		if e := k.fault(p, deep, size); e != api.OK {
			return 0, e
		}
	}
	return size, api.OK
}

// small: a term beyond the limits may have more parts than memory could hold,
// since few lists are enough to make many parts of.
func small(t *api.Term) bool {
	size := 0
	for deep, p := range parts(t, 1) {
		size += 1 + len(p.B)
		if deep > api.MaxDeep || size > api.MaxSize {
			return false
		}
	}
	return true
}

// fresh: t in new memory, all parts of it.
func fresh(t api.Term) api.Term {
	t.B, t.L = slices.Clone(t.B), slices.Clone(t.L)
	for i, p := range t.L {
		t.L[i] = fresh(p)
	}
	return t
}

// own: t in new memory, right or not. Of what is not small the elements stay
// as they were handed in: only the lists of t itself are new.
func own(t api.Term) api.Term {
	if small(&t) {
		return fresh(t)
	}
	t.B, t.L = slices.Clone(t.B), slices.Clone(t.L)
	return t
}
