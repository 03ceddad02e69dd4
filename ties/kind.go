package ties

import (
	"cmp"
	"maps"
	"slices"

	"rookery/api"
)

// kind is all ties of one kind: what each stands by, and the other process.
type kind map[api.Id]api.Id

// keys: what the ties stand by, rising.
func (k kind) keys() []api.Id { return slices.SortedFunc(maps.Keys(k), rising) }

// rising is layer 2's order of ids.
func rising(a, b api.Id) int {
	return cmp.Or(cmp.Compare(a.Node, b.Node), cmp.Compare(a.Boot, b.Boot), cmp.Compare(a.N, b.N))
}

// all: the ties, in the order of their keys.
func (k kind) all() []Tie {
	out := make([]Tie, 0, len(k))
	for _, ref := range k.keys() {
		out = append(out, Tie{Ref: ref, Other: k[ref]})
	}
	return out
}

// drop: a tie is no more, if there is one with that ref of that other one.
func (k kind) drop(x Tie) api.Errno {
	other, ok := k[x.Ref]
	if !ok || other != x.Other {
		return api.ErrTiesNone
	}
	delete(k, x.Ref)
	return api.OK
}

// takeOf: the ties with processes of a node, which are gone then.
func (k kind) takeOf(node int) []Tie {
	var out []Tie
	for _, x := range k.all() {
		if x.Other.Node == node {
			out = append(out, x)
			delete(k, x.Ref)
		}
	}
	return out
}
