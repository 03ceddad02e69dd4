package comp

import (
	"slices"
	"strconv"
	"strings"

	"rookery/api"
	"rookery/check"
)

// maxSlots: a slot for each parameter, _ too, and one for each other name.
const maxSlots = api.MaxSlots + api.MaxParams

// known: what is known of a function at the place that is gone through. bound is
// an array, by slots, so that it is kept whole ahead of a clause and put back
// behind it.
type known struct {
	funs  []api.Fun
	slots map[string]int
	count int
	bound [maxSlots]bool
}

// knownOf: what is known ahead of a function's body. funs are the program's, of
// which the names and the numbers of arguments count.
func knownOf(f *api.Tree, funs []api.Fun) known {
	k := known{funs: funs, slots: map[string]int{}, count: arity(f)}
	for i := range k.count {
		k.slots[f.L[i].S] = i
		k.bound[i] = true
	}
	for _, name := range check.Slots(*f) {
		if _, ok := k.slots[name]; !ok {
			k.slots[name] = k.count
			k.count++
		}
	}
	return k
}

// arity: behind a function's parameters stands its body.
func arity(f *api.Tree) int { return len(f.L) - 1 }

// pattern: as a pattern of slots. A name that stands in it twice is bound behind
// the whole of it alone, so that what was bound ahead is kept.
func (k *known) pattern(p *api.Tree) api.Term {
	ahead := k.bound
	var walk func(p *api.Tree) api.Term
	walk = func(p *api.Tree) api.Term {
		switch p.Kind {
		case api.TVar:
			return k.meet(p.S, &ahead)
		case api.TNeg:
			return api.Term{Kind: api.KInt, N: -p.L[0].N}
		case api.TTuple:
			return api.Term{Kind: api.KTuple, L: each(p.L, walk)}
		case api.TList:
			return api.Term{Kind: api.KList, L: each(p.L, walk)}
		}
		return literal(p)
	}
	return walk(p)
}

func each(l []api.Tree, f func(p *api.Tree) api.Term) []api.Term {
	out := make([]api.Term, len(l))
	for i := range l {
		out[i] = f(&l[i])
	}
	return out
}

// meet: a name in a pattern, which is bound from then on.
func (k *known) meet(name string, ahead *[maxSlots]bool) api.Term {
	if name == "_" {
		return api.Term{Kind: api.KAny}
	}
	slot := k.slots[name]
	k.bound[slot] = true
	letter := "V"
	if ahead[slot] {
		letter = "B"
	}
	return api.Term{Kind: api.KVar, S: letter + strconv.Itoa(slot)}
}

// literal: of an int, an atom or bytes.
func literal(t *api.Tree) api.Term {
	switch t.Kind {
	case api.TInt:
		return api.Term{Kind: api.KInt, N: t.N}
	case api.TAtom:
		return atom(t.S)
	}
	return api.Term{Kind: api.KBytes, B: slices.Clone(t.B)}
}

// atom: with a copy of its name, since an answer shares no memory.
func atom(name string) api.Term {
	return api.Term{Kind: api.KAtom, S: strings.Clone(name)}
}
