package gram_test

import (
	"strings"

	"rookery/api"
)

// Which tokens Parse must take, worked out apart from it: the chapter's grammar
// is kept as its text, and all that may come next is kept at each token.

// grammar: as the chapter writes it, each sign and word between quotes; behind
// a ^ stands a token with which one is one deeper, up to the end of what stands
// beside it.
const grammar = `
PROG   = { FUN }
FUN    = atom '(' [ var { ',' var } ] ')' '->' BODY '.'
BODY   = EXPR { ',' EXPR }
EXPR   = CMP [ ^'=' EXPR | ^'!' EXPR ]
CMP    = SUM [ ( '==' | '/=' | '<' | '>' | '=<' | '>=' ) SUM ]
SUM    = PROD { ( '+' | '-' ) PROD }
PROD   = UNARY { ( '*' | '/' | 'rem' ) UNARY }
UNARY  = ^'-' UNARY | PRIM
PRIM   = int | var | bytes | atom | atom ^'(' [ LIST ] ')' | ^'(' EXPR ')' | ^'{' [ LIST ] '}' | ^'[' [ LIST ] ']' | CASE | RECV
LIST   = EXPR { ',' EXPR }
CASE   = ^'case' EXPR 'of' CLAUSE { ';' CLAUSE } 'end'
RECV   = ^'receive' ( CLAUSE { ';' CLAUSE } [ 'after' EXPR '->' BODY ] | 'after' EXPR '->' BODY ) 'end'
CLAUSE = UNARY '->' BODY
`

// form: a piece of the grammar. how is one of "rule", "token", "row", "one of",
// "may lack", "any number".
type form struct {
	how  string
	s    string
	deep bool
	l    []*form
}

type rules map[string]*form

func readGrammar() rules {
	r := rules{}
	for _, line := range strings.Split(strings.TrimSpace(grammar), "\n") {
		w := strings.Fields(line)
		x, rest := readForms(w[2:])
		if len(rest) > 0 || w[1] != "=" {
			panic(line)
		}
		r[w[0]] = x
	}
	return r
}

// readForms: up to the end, or to what closes it.
func readForms(w []string) (*form, []string) {
	all, row := &form{how: "one of"}, &form{how: "row"}
	for len(w) > 0 && !strings.Contains(")]}", w[0]) {
		head := w[0]
		w = w[1:]
		var x *form
		switch how := map[string]string{"(": "one of", "[": "may lack", "{": "any number"}[head]; {
		case head == "|":
			all.l = append(all.l, row)
			row = &form{how: "row"}
			continue
		case how != "":
			var inner *form
			inner, w = readForms(w)
			w = w[1:]
			x = &form{how: how, l: []*form{inner}}
		case strings.ToUpper(head) == head && strings.ToLower(head) != head:
			x = &form{how: "rule", s: head}
		default:
			x = &form{how: "token", s: strings.TrimPrefix(head, "^"), deep: head[0] == '^'}
		}
		row.l = append(row.l, x)
	}
	all.l = append(all.l, row)
	return all, w
}

// goal: what is to come, at which depth, and what is to come behind it.
type goal struct {
	x    *form
	deep int
	next *goal
}

// tokens: the tokens that may come first; nil, if g may be nothing.
func (r rules) tokens(out []*goal, g *goal) []*goal {
	if g == nil {
		return append(out, nil)
	}
	switch g.x.how {
	case "token":
		return append(out, g)
	case "rule":
		return r.tokens(out, &goal{r[g.x.s], g.deep, g.next})
	case "row":
		return r.tokens(out, inRow(g.x.l, g.deep, g.next))
	case "may lack":
		out = r.tokens(out, g.next)
		return r.tokens(out, &goal{g.x.l[0], g.deep, g.next})
	case "any number":
		out = r.tokens(out, g.next)
		return r.tokens(out, &goal{g.x.l[0], g.deep, g})
	}
	for _, x := range g.x.l {
		out = r.tokens(out, &goal{x, g.deep, g.next})
	}
	return out
}

func inRow(l []*form, deep int, next *goal) *goal {
	if len(l) == 0 {
		return next
	}
	behind := deep
	if l[0].deep {
		behind++
	}
	return &goal{l[0], deep, inRow(l[1:], behind, next)}
}

func (r rules) begin() []*goal { return r.tokens(nil, &goal{x: r["PROG"]}) }

func fits(s string, x api.Token) bool {
	switch s {
	case "int":
		return x.Kind == api.TkInt
	case "atom":
		return x.Kind == api.TkAtom
	case "var":
		return x.Kind == api.TkVar
	case "bytes":
		return x.Kind == api.TkBytes
	}
	return (x.Kind == api.TkSign || x.Kind == api.TkWord) && "'"+x.S+"'" == s
}

// step: what may come behind x.
func (r rules) step(all []*goal, x api.Token) ([]*goal, api.Errno) {
	var out []*goal
	e := api.ErrGramToken
	for _, g := range all {
		if g == nil || !fits(g.x.s, x) {
			continue
		}
		if g.x.deep && g.deep == maxNest {
			e = api.ErrGramDeep
			continue
		}
		out = r.tokens(out, g.next)
	}
	if len(out) > 0 && e == api.ErrGramDeep {
		panic("a token that is both too deep and not")
	}
	if len(out) > 0 {
		return out, api.OK
	}
	return nil, e
}

// whole: may the tokens end here?
func whole(all []*goal) bool {
	for _, g := range all {
		if g == nil {
			return true
		}
	}
	return false
}

// asked: what Parse must answer.
func (r rules) asked(l []api.Token) (api.Tree, int, api.Errno) {
	all := r.begin()
	for i, x := range l {
		var e api.Errno
		if all, e = r.step(all, x); e != api.OK {
			return api.Tree{}, i, e
		}
	}
	if !whole(all) {
		return api.Tree{}, len(l), api.ErrGramToken
	}
	return splitProg(l), 0, api.OK
}
