package gram_test

import (
	"slices"

	"rookery/api"
)

// The tree of tokens that the grammar takes, worked out apart from Parse: from
// the outside to the inside, at the token that joins last.

func isOne(x api.Token, l ...string) bool {
	return (x.Kind == api.TkSign || x.Kind == api.TkWord) && slices.Contains(l, x.S)
}

// outer: the places of those of these signs that stand in no bracket, and that
// join two, if they could stand ahead of one as well.
func outer(l []api.Token, signs ...string) []int {
	var out []int
	deep := 0
	for i, x := range l {
		if isOne(x, ")", "}", "]", "end") {
			deep--
		}
		if deep == 0 && isOne(x, signs...) && (!isOne(x, "-") || i > 0 && ends(l[i-1])) {
			out = append(out, i)
		}
		if isOne(x, "(", "{", "[", "case", "receive") {
			deep++
		}
	}
	return out
}

// ends: can an expression end with x?
func ends(x api.Token) bool {
	return x.Kind >= api.TkInt && x.Kind <= api.TkBytes || isOne(x, ")", "}", "]", "end")
}

// pieces: what stands between these signs; nothing of no tokens.
func pieces(l []api.Token, s string) [][]api.Token {
	if len(l) == 0 {
		return nil
	}
	var out [][]api.Token
	from := 0
	for _, i := range append(outer(l, s), len(l)) {
		out = append(out, l[from:i])
		from = i + 1
	}
	return out
}

func each(l [][]api.Token, f func([]api.Token) api.Tree) []api.Tree {
	var out []api.Tree
	for _, x := range l {
		out = append(out, f(x))
	}
	return out
}

func splitProg(l []api.Token) api.Tree {
	var funs []api.Tree
	for len(l) > 0 {
		end := slices.IndexFunc(l, func(x api.Token) bool { return isOne(x, ".") })
		funs = append(funs, splitFun(l[:end]))
		l = l[end+1:]
	}
	return tree(api.TProg, "", funs...)
}

func splitFun(l []api.Token) api.Tree {
	end := slices.IndexFunc(l, func(x api.Token) bool { return isOne(x, ")") })
	parts := each(pieces(l[2:end], ","), splitPrim)
	return tree(api.TFun, l[0].S, append(parts, splitBody(l[end+2:]))...)
}

func splitBody(l []api.Token) api.Tree {
	return tree(api.TBody, "", each(pieces(l, ","), splitExpr)...)
}

func splitExpr(l []api.Token) api.Tree {
	if at := outer(l, "=", "!"); len(at) > 0 {
		kind := api.TSend
		if isOne(l[at[0]], "=") {
			kind = api.TEqual
		}
		return tree(kind, "", splitExpr(l[:at[0]]), splitExpr(l[at[0]+1:]))
	}
	for _, signs := range [][]string{{"==", "/=", "<", ">", "=<", ">="}, {"+", "-"}, {"*", "/", "rem"}} {
		if at := outer(l, signs...); len(at) > 0 {
			i := at[len(at)-1]
			return tree(api.TBin, l[i].S, splitExpr(l[:i]), splitExpr(l[i+1:]))
		}
	}
	if isOne(l[0], "-") {
		return tree(api.TNeg, "", splitExpr(l[1:]))
	}
	return splitPrim(l)
}

func splitPrim(l []api.Token) api.Tree {
	x, last := l[0], len(l)-1
	switch {
	case x.Kind == api.TkInt:
		return treeInt(x.N)
	case x.Kind == api.TkBytes:
		return treeBytes(string(x.B))
	case x.Kind == api.TkVar:
		return tree(api.TVar, x.S)
	case x.Kind == api.TkAtom && last == 0:
		return tree(api.TAtom, x.S)
	case x.Kind == api.TkAtom:
		return tree(api.TCall, x.S, each(pieces(l[2:last], ","), splitExpr)...)
	case isOne(x, "("):
		return splitExpr(l[1:last])
	case isOne(x, "{"):
		return tree(api.TTuple, "", each(pieces(l[1:last], ","), splitExpr)...)
	case isOne(x, "["):
		return tree(api.TList, "", each(pieces(l[1:last], ","), splitExpr)...)
	case isOne(x, "case"):
		of := 1 + outer(l[1:last], "of")[0]
		parts := []api.Tree{splitExpr(l[1:of])}
		return tree(api.TCase, "", append(parts, each(pieces(l[of+1:last], ";"), splitClause)...)...)
	}
	l = l[1:last]
	after := append(outer(l, "after"), len(l))[0]
	parts := each(pieces(l[:after], ";"), splitClause)
	if after < len(l) {
		x := splitClause(l[after+1:])
		x.Kind = api.TAfter
		parts = append(parts, x)
	}
	return tree(api.TRecv, "", parts...)
}

func splitClause(l []api.Token) api.Tree {
	at := outer(l, "->")[0]
	return tree(api.TClause, "", splitExpr(l[:at]), splitBody(l[at+1:]))
}
