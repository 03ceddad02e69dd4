package check

import (
	"maps"

	"rookery/api"
)

// bound: the names that stand for something. _ never does.
type bound map[string]struct{}

// put: is it a name that was not there?
func (b bound) put(name string) bool {
	_, was := b[name]
	if was || name == "_" {
		return false
	}
	b[name] = struct{}{}
	return true
}

// unbound: does a function use a name that isn't bound there?
func unbound(t *api.Tree) bool {
	if t.Kind != api.TFun {
		return false
	}
	b := bound{}
	params := headOf(t).args
	for i := range params {
		b.putAll(&t.L[i])
	}
	return b.lacks(&t.L[params])
}

// putAll: the names of a pattern.
func (b bound) putAll(p *api.Tree) {
	anyPart(p, func(p *api.Tree) bool {
		if p.Kind == api.TVar {
			b.put(p.S)
		}
		return false
	})
}

// lacks: is a name used in t that isn't bound? Parts are gone through as they
// are done; what they bind is bound behind them, but for what a clause or the
// body behind an after binds, for which b is copied.
func (b bound) lacks(t *api.Tree) bool {
	switch t.Kind {
	case api.TVar:
		_, ok := b[t.S]
		return !ok
	case api.TEqual:
		if b.lacks(&t.L[1]) {
			return true
		}
		b.putAll(&t.L[0])
		return false
	case api.TClause:
		inner := maps.Clone(b)
		inner.putAll(&t.L[0])
		return inner.lacks(&t.L[1])
	case api.TRecv:
		return b.lacksReceiving(t)
	}
	return b.lacksAny(t.L)
}

// lacksReceiving: how long is waited is worked out ahead of all else.
func (b bound) lacksReceiving(t *api.Tree) bool {
	after := afterOf(t)
	if after == nil {
		return b.lacksAny(t.L)
	}
	return b.lacks(&after.L[0]) || b.lacksAny(clausesOf(t)) || maps.Clone(b).lacks(&after.L[1])
}

func (b bound) lacksAny(l []api.Tree) bool {
	return !every(l, func(t *api.Tree) bool { return !b.lacks(t) })
}
