package vm

import (
	"slices"
	"strings"

	"rookery/api"
)

func atom(name string) api.Term { return api.Term{Kind: api.KAtom, S: name} }

// fresh: a term, or a pattern of slots, in new memory. (term.Copy takes no
// pattern.)
func fresh(t api.Term) api.Term {
	t.S, t.B, t.L = strings.Clone(t.S), slices.Clone(t.B), freshList(t.L)
	return t
}

func freshList(l []api.Term) []api.Term {
	out := slices.Clone(l)
	for i := range out {
		out[i] = fresh(out[i])
	}
	return out
}
