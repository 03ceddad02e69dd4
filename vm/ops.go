package vm

import (
	"rookery/api"
	"rookery/check"
	"rookery/num"
	"rookery/term"
)

// table: what each Op does, when the one behind it is next already.
func (p *Proc) table() [api.OTake + 1]func(in *api.Ins) {
	return [...]func(in *api.Ins){
		api.OPush:  p.push,
		api.OLoad:  p.load,
		api.OPop:   p.pop,
		api.OTuple: p.tuple,
		api.OList:  p.list,
		api.OBin:   p.two,
		api.ONeg:   p.negate,
		api.OMatch: p.match,
		api.OJump:  p.jump,
		api.OCall:  p.call,
		api.OTail:  p.tail,
		api.ORet:   p.ret,
		api.OBif:   p.builtin,
		api.OSend:  p.send,
		api.OFail:  p.failing,
		api.OTimer: p.timer,
		api.OPeek:  p.peek,
		api.ONext:  p.pass,
		api.OTake:  p.remove,
	}
}

// fetch: the instruction that is next, behind which one is then; or it asks for a
// turn ahead of it.
func (p *Proc) fetch() (in *api.Ins, ok bool) {
	f := p.last()
	in = &f.ins[f.next]
	if counts(in, f.next) {
		if p.turns == api.MaxTurn {
			p.ask = Ask{Kind: AskTurn}
			return nil, false
		}
		p.turns++
	}
	f.next++
	return in, true
}

// counts: could one run on by such instructions without an end?
func counts(in *api.Ins, at int) bool {
	switch in.Op {
	case api.OCall, api.OTail, api.OBif:
		return true
	case api.OMatch, api.OJump:
		return in.A <= at
	}
	return false
}

func (p *Proc) push(in *api.Ins) { p.put(in.T) }

func (p *Proc) load(in *api.Ins) { p.put(p.last().slots[in.A]) }

func (p *Proc) pop(*api.Ins) { p.take(1) }

func (p *Proc) tuple(in *api.Ins) { p.leave(joined(api.KTuple, p.take(in.A))) }

func (p *Proc) list(in *api.Ins) { p.leave(joined(api.KList, p.take(in.A))) }

// joined: a tuple or a list of these, which keeps them; what is wrong with it.
func joined(kind int, l []api.Term) (api.Term, api.Errno) {
	t := api.Term{Kind: kind, L: l}
	return t, term.Check(t)
}

func (p *Proc) two(in *api.Ins) {
	l := p.take(2)
	if in.A <= api.Rem {
		p.leave(num.Do(in.A, l[0], l[1]))
		return
	}
	c, _ := term.Cmp(l[0], l[1])
	p.put(truth(holds(in.A, c)))
}

// The signs of OBin that compare.
const (
	same = iota + api.Rem + 1
	other
	less
	more
	atMost
	atLeast
)

// holds: does the sign say what term.Cmp tells?
func holds(sign, c int) bool {
	switch sign {
	case same:
		return c == 0
	case other:
		return c != 0
	case less:
		return c < 0
	case more:
		return c > 0
	case atMost:
		return c <= 0
	}
	return c >= 0
}

func truth(is bool) api.Term {
	if is {
		return atom("true")
	}
	return atom("false")
}

func (p *Proc) negate(*api.Ins) { p.leave(num.One(api.Neg, p.takeOne())) }

func (p *Proc) match(in *api.Ins) {
	f := p.last()
	if !f.match(&in.T, &f.stack[len(f.stack)-1]) {
		f.next = in.A
	}
}

func (p *Proc) jump(in *api.Ins) { p.last().next = in.A }

func (p *Proc) call(in *api.Ins) {
	if len(p.frames) == api.MaxFrames {
		p.fail(atom("system_limit"))
		return
	}
	p.enter(in.A, p.take(in.B))
}

func (p *Proc) tail(in *api.Ins) {
	args := p.take(in.B)
	p.leaveFrame()
	p.enter(in.A, args)
}

func (p *Proc) ret(*api.Ins) {
	t := p.takeOne()
	if len(p.frames) == 1 {
		p.finish(Ask{Kind: AskEnd, T: t})
		return
	}
	p.leaveFrame()
	p.put(t)
}

func (p *Proc) builtin(in *api.Ins) {
	args := p.take(check.Arity(in.A))
	if in.A < cx {
		p.ask = Ask{Kind: AskCall, N: in.A, L: args}
		return
	}
	p.leave(builtins(args)[in.A]())
}

func (p *Proc) send(*api.Ins) {
	l := p.take(2)
	p.ask = Ask{Kind: AskSend, T: l[0], U: l[1]}
}

func (p *Proc) failing(in *api.Ins) {
	t, e := joined(api.KTuple, []api.Term{atom(failure(in.A)), p.takeOne()})
	if e != api.OK {
		p.leave(t, e)
		return
	}
	p.fail(t)
}

func failure(n int) string {
	switch n {
	case 1:
		return "badmatch"
	case 2:
		return "case_clause"
	}
	return "timeout"
}

func (p *Proc) timer(*api.Ins) { p.ask = Ask{Kind: AskTimer, T: p.takeOne()} }

func (p *Proc) peek(*api.Ins) { p.ask = Ask{Kind: AskPeek} }

func (p *Proc) pass(*api.Ins) { p.ask = Ask{Kind: AskNext, T: p.takeOne()} }

func (p *Proc) remove(*api.Ins) { p.ask = Ask{Kind: AskTake, T: p.takeOne()} }
