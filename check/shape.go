package check

import (
	"rookery/api"
	"rookery/atom"
	"rookery/lex"
	"rookery/match"
)

// misshapen: is a part by itself, with the kinds of those in its L, none that
// chapter 16 has?
func misshapen(t *api.Tree) bool {
	return !bare(*t) || !partsRight(t) || !valueRight(t)
}

// bare: is each field zero that its kind does not name?
func bare(t api.Tree) bool {
	switch t.Kind {
	case api.TInt:
		t.N = 0
	case api.TAtom, api.TVar:
		t.S = ""
	case api.TBytes:
		t.B = nil
	case api.TBin, api.TCall, api.TFun:
		t.S, t.L = "", nil
	default:
		t.L = nil
	}
	return t.S == "" && t.N == 0 && len(t.B) == 0 && len(t.L) == 0
}

func partsRight(t *api.Tree) bool {
	l := t.L
	switch t.Kind {
	case api.TInt, api.TAtom, api.TVar, api.TBytes:
		return true
	case api.TTuple, api.TList, api.TCall:
		return every(l, expression)
	case api.TNeg:
		return len(l) == 1 && every(l, expression)
	case api.TBin, api.TEqual, api.TSend:
		return len(l) == 2 && every(l, expression)
	case api.TCase:
		return len(l) > 1 && expression(&l[0]) && every(l[1:], is(api.TClause))
	case api.TRecv:
		return len(l) > 0 && every(clausesOf(t), is(api.TClause))
	case api.TAfter, api.TClause:
		return len(l) == 2 && expression(&l[0]) && l[1].Kind == api.TBody
	case api.TBody:
		return len(l) > 0 && every(l, expression)
	case api.TFun:
		last := len(l) - 1
		return last >= 0 && every(l[:last], is(api.TVar)) && l[last].Kind == api.TBody
	case api.TProg:
		return every(l, is(api.TFun))
	}
	return false
}

// clausesOf: what stands in a TRecv ahead of its TAfter.
func clausesOf(t *api.Tree) []api.Tree {
	if afterOf(t) != nil {
		return t.L[:len(t.L)-1]
	}
	return t.L
}

// afterOf: nil, if there is none.
func afterOf(t *api.Tree) *api.Tree {
	if last := len(t.L) - 1; last >= 0 && t.L[last].Kind == api.TAfter {
		return &t.L[last]
	}
	return nil
}

func valueRight(t *api.Tree) bool {
	switch t.Kind {
	case api.TInt:
		return t.N >= 0 && t.N <= api.MaxInt
	case api.TAtom, api.TCall, api.TFun:
		return atom.Right(t.S) && !lex.Word(t.S)
	case api.TVar:
		return t.S == "_" || match.Name(t.S)
	case api.TBytes:
		return len(t.B) <= api.MaxSize
	case api.TBin:
		return joins(t.S)
	}
	return true
}

func joins(s string) bool {
	switch s {
	case "==", "/=", "<", ">", "=<", ">=", "+", "-", "*", "/", "rem":
		return true
	}
	return false
}

func expression(t *api.Tree) bool { return t.Kind >= api.TInt && t.Kind <= api.TRecv }

func is(kind int) func(t *api.Tree) bool {
	return func(t *api.Tree) bool { return t.Kind == kind }
}

func every(l []api.Tree, so func(t *api.Tree) bool) bool {
	for i := range l {
		if !so(&l[i]) {
			return false
		}
	}
	return true
}
