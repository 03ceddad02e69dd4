package vm

import (
	"slices"

	"rookery/api"
)

// asked: is there nothing to be done ahead of an answer?
func (p *Proc) asked() bool { return p.ask.Kind != 0 || len(p.frames) == 0 }

// waits: OK, if an ask of one of these kinds waits for its answer.
func (p *Proc) waits(kinds ...int) api.Errno {
	switch {
	case p == nil:
		return api.ErrNil
	case !slices.Contains(kinds, p.ask.Kind):
		return api.ErrVmState
	}
	return api.OK
}

// answerTurn: an AskTurn is answered by its being run again.
func (p *Proc) answerTurn() {
	if p.ask.Kind == AskTurn {
		p.ask = Ask{}
		p.turns = 0
	}
}

// told: what it asks, in new memory.
func (p *Proc) told() Ask {
	a := p.ask
	a.T, a.U, a.L = fresh(a.T), fresh(a.U), freshList(a.L)
	return a
}

// finish: nothing is left of it but what it asks from now on.
func (p *Proc) finish(a Ask) { *p = Proc{ask: a} }

func (p *Proc) fail(reason api.Term) { p.finish(Ask{Kind: AskFail, T: reason}) }

// leave: what came of an instruction is put, or else it fails for what was wrong.
func (p *Proc) leave(t api.Term, e api.Errno) {
	switch e {
	case api.OK:
		p.put(t)
	case api.ErrNumKind, api.ErrArg:
		p.fail(atom("badarg"))
	case api.ErrNumZero:
		p.fail(atom("zero"))
	case api.ErrNumRange:
		p.fail(atom("range"))
	default:
		p.fail(atom("system_limit"))
	}
}
