package check

import "rookery/api"

// pass: an error, and whether something in the tree is wrong in that way.
type pass struct {
	e     api.Errno
	wrong func() bool
}

// passes: in the order in which the errors are told. Each one takes it that
// those ahead of it found nothing: behind the first one the parts are few, behind
// the second one each part has the parts that its kind asks for.
func passes(t *api.Tree) []pass {
	some := func(wrong func(p *api.Tree) bool) func() bool {
		return func() bool { return anyPart(t, wrong) }
	}
	return []pass{
		{api.ErrCheckMany, func() bool { return crowded(t) }},
		{api.ErrCheckTree, func() bool { return t.Kind != api.TProg || anyPart(t, misshapen) }},
		{api.ErrCheckMany, some(overfull)},
		{api.ErrCheckTwice, func() bool { return len(heads(t)) < len(t.L) || anyPart(t, paramTwice) }},
		{api.ErrCheckName, some(namedAsBuiltin)},
		{api.ErrCheckPattern, some(patternWrong)},
		{api.ErrCheckVar, some(unbound)},
		{api.ErrCheckCall, func() bool { return anyPart(t, uncallable(heads(t))) }},
		{api.ErrCheckMain, func() bool { return !heads(t).has("main", 0) }},
	}
}

// anyPart: is it so of t, or of anything in it? It asks no more behind the first
// part of which it is so.
func anyPart(t *api.Tree, so func(p *api.Tree) bool) bool {
	if so(t) {
		return true
	}
	for i := range t.L {
		if anyPart(&t.L[i], so) {
			return true
		}
	}
	return false
}

// crowded: a tree may hold itself, so that the count alone makes an end.
func crowded(t *api.Tree) bool {
	parts := 0
	return anyPart(t, func(*api.Tree) bool {
		parts++
		return parts > api.MaxTokens
	})
}

func overfull(t *api.Tree) bool {
	switch t.Kind {
	case api.TProg:
		return len(t.L) > api.MaxFuns
	case api.TFun:
		return headOf(t).args > api.MaxParams || len(Slots(*t)) > api.MaxSlots
	case api.TCall:
		return len(t.L) > api.MaxParams
	case api.TTuple, api.TList:
		return len(t.L) > api.MaxWide
	}
	return false
}

// known: the functions that may be called.
type known map[head]struct{}

func (k known) has(name string, args int) bool {
	_, ok := k[head{name, args}]
	return ok
}

// heads: of the functions of a program.
func heads(t *api.Tree) known {
	k := known{}
	for i := range t.L {
		k[headOf(&t.L[i])] = struct{}{}
	}
	return k
}

// headOf: behind a function's parameters stands its body.
func headOf(f *api.Tree) head { return head{f.S, len(f.L) - 1} }

func paramTwice(t *api.Tree) bool {
	if t.Kind != api.TFun {
		return false
	}
	b := bound{}
	for _, p := range t.L[:headOf(t).args] {
		if p.S != "_" && !b.put(p.S) {
			return true
		}
	}
	return false
}

func namedAsBuiltin(t *api.Tree) bool {
	h := headOf(t)
	return t.Kind == api.TFun && Builtin(h.name, h.args) != 0
}

// uncallable: whether a part is a call of none of these and of no builtin.
func uncallable(k known) func(t *api.Tree) bool {
	return func(t *api.Tree) bool {
		return t.Kind == api.TCall && Builtin(t.S, len(t.L)) == 0 && !k.has(t.S, len(t.L))
	}
}

func patternWrong(t *api.Tree) bool {
	return (t.Kind == api.TEqual || t.Kind == api.TClause) && !pattern(&t.L[0])
}

func pattern(t *api.Tree) bool {
	switch t.Kind {
	case api.TInt, api.TAtom, api.TVar, api.TBytes:
		return true
	case api.TNeg:
		return t.L[0].Kind == api.TInt
	case api.TTuple, api.TList:
		return every(t.L, pattern)
	}
	return false
}
