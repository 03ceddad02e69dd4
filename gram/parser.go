package gram

import (
	"slices"
	"strings"

	"rookery/api"
)

// levels: the signs that join two, those that join the least first.
var levels = [...]string{"== /= < > =< >=", "+ -", "* / rem"}

// parser goes through l once. A fault cuts l off where it is: every rule then
// finds the end and gives up, so that at stays the number of the faulty token.
type parser struct {
	l    []api.Token
	at   int
	deep int
	e    api.Errno
}

// node: nobody else holds the list of the parts, so that it needs no copy.
func node(kind int, s string, parts ...api.Tree) api.Tree {
	return api.Tree{Kind: kind, S: s, L: parts}
}

// peek: the end is told as a token of no kind, which can stand nowhere.
func (p *parser) peek() api.Token {
	if p.at < len(p.l) {
		return p.l[p.at]
	}
	return api.Token{}
}

// is: of signs and words S counts, whichever of both the token is.
func (p *parser) is(s string) bool {
	t := p.peek()
	return (t.Kind == api.TkSign || t.Kind == api.TkWord) && t.S == s
}

func (p *parser) take(s string) bool {
	if !p.is(s) {
		return false
	}
	p.at++
	return true
}

func (p *parser) want(s string) {
	if !p.take(s) {
		p.fail(api.ErrGramToken)
	}
}

// fail: what is wrong first stays.
func (p *parser) fail(e api.Errno) api.Tree {
	if p.e == api.OK {
		p.e = e
		p.l = p.l[:p.at]
	}
	return api.Tree{}
}

// name: a copy, since the answer must not keep what was handed in.
func (p *parser) name(kind int) string {
	t := p.peek()
	if t.Kind != kind {
		p.fail(api.ErrGramToken)
		return ""
	}
	p.at++
	return strings.Clone(t.S)
}

// deeper: what the rule reads behind the token that is to be read, which is
// the one to blame if that is too deep.
func (p *parser) deeper(rule func() api.Tree) api.Tree {
	if p.deep == api.MaxNest {
		return p.fail(api.ErrGramDeep)
	}
	p.at++
	p.deep++
	t := rule()
	p.deep--
	return t
}

// several: one at least, with the sign between each two.
func (p *parser) several(sign string, rule func() api.Tree) []api.Tree {
	l := []api.Tree{rule()}
	for p.take(sign) {
		l = append(l, rule())
	}
	return l
}

// upTo: none or several with commas between them, and the sign behind them.
func (p *parser) upTo(end string, rule func() api.Tree) []api.Tree {
	var l []api.Tree
	if !p.is(end) {
		l = p.several(",", rule)
	}
	p.want(end)
	return l
}

// joined: signs of one level join from the left; those of the first level join
// just once.
func (p *parser) joined() api.Tree {
	var down func(level int) api.Tree
	down = func(level int) api.Tree {
		if level == len(levels) {
			return p.unary()
		}
		left := down(level + 1)
		for slices.ContainsFunc(strings.Fields(levels[level]), p.is) {
			sign := strings.Clone(p.peek().S)
			p.at++
			left = node(api.TBin, sign, left, down(level+1))
			if level == 0 {
				break
			}
		}
		return left
	}
	return down(0)
}
