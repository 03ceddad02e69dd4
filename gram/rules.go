package gram

import (
	"slices"

	"rookery/api"
)

func (p *parser) prog() api.Tree {
	var funs []api.Tree
	for p.at < len(p.l) {
		funs = append(funs, p.fun())
	}
	return node(api.TProg, "", funs...)
}

func (p *parser) fun() api.Tree {
	name := p.name(api.TkAtom)
	p.want("(")
	params := p.upTo(")", p.variable)
	body := p.arrow()
	p.want(".")
	return node(api.TFun, name, append(params, body)...)
}

func (p *parser) variable() api.Tree {
	return node(api.TVar, p.name(api.TkVar))
}

// arrow: the body behind a ->.
func (p *parser) arrow() api.Tree {
	p.want("->")
	return node(api.TBody, "", p.several(",", p.expr)...)
}

func (p *parser) expr() api.Tree {
	left := p.joined()
	switch {
	case p.is("="):
		return node(api.TEqual, "", left, p.deeper(p.expr))
	case p.is("!"):
		return node(api.TSend, "", left, p.deeper(p.expr))
	}
	return left
}

func (p *parser) unary() api.Tree {
	if p.is("-") {
		return node(api.TNeg, "", p.deeper(p.unary))
	}
	return p.prim()
}

func (p *parser) prim() api.Tree {
	t := p.peek()
	switch t.Kind {
	case api.TkInt:
		p.at++
		return api.Tree{Kind: api.TInt, N: t.N}
	case api.TkBytes:
		p.at++
		return api.Tree{Kind: api.TBytes, B: slices.Clone(t.B)}
	case api.TkVar:
		return p.variable()
	case api.TkAtom:
		return p.atom()
	}
	return p.nest()
}

// atom: with a ( behind it it is a call.
func (p *parser) atom() api.Tree {
	name := p.name(api.TkAtom)
	if !p.is("(") {
		return node(api.TAtom, name)
	}
	return p.deeper(func() api.Tree {
		return node(api.TCall, name, p.upTo(")", p.expr)...)
	})
}

func (p *parser) nest() api.Tree {
	switch {
	case p.is("("):
		return p.deeper(p.bracket)
	case p.is("{"):
		return p.deeper(p.tuple)
	case p.is("["):
		return p.deeper(p.list)
	case p.is("case"):
		return p.deeper(p.choice)
	case p.is("receive"):
		return p.deeper(p.receive)
	}
	return p.fail(api.ErrGramToken)
}

func (p *parser) bracket() api.Tree {
	t := p.expr()
	p.want(")")
	return t
}

func (p *parser) tuple() api.Tree {
	return node(api.TTuple, "", p.upTo("}", p.expr)...)
}

func (p *parser) list() api.Tree {
	return node(api.TList, "", p.upTo("]", p.expr)...)
}

func (p *parser) choice() api.Tree {
	parts := []api.Tree{p.expr()}
	p.want("of")
	parts = append(parts, p.several(";", p.clause)...)
	p.want("end")
	return node(api.TCase, "", parts...)
}

func (p *parser) receive() api.Tree {
	var parts []api.Tree
	if !p.is("after") {
		parts = p.several(";", p.clause)
	}
	if p.take("after") {
		parts = append(parts, node(api.TAfter, "", p.expr(), p.arrow()))
	}
	p.want("end")
	return node(api.TRecv, "", parts...)
}

func (p *parser) clause() api.Tree {
	return node(api.TClause, "", p.unary(), p.arrow())
}
