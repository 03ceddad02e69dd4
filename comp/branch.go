package comp

import "rookery/api"

// match: what it answers tells where one goes on if the value doesn't fit.
func (e *emitter) match(p *api.Tree) (miss func()) {
	return e.ahead(api.Ins{Op: api.OMatch, T: e.pattern(p)})
}

func (e *emitter) equal(t *api.Tree) {
	e.value(&t.L[1])
	miss := e.match(&t.L[0])
	end := e.ahead(api.Ins{Op: api.OJump})
	miss()
	e.put(api.Ins{Op: api.OFail, A: 1})
	end()
}

func (e *emitter) choice(t *api.Tree, last bool) {
	e.value(&t.L[0])
	end := e.clauses(t.L[1:], api.OPop, last)
	e.put(api.Ins{Op: api.OFail, A: 2})
	end()
}

// clauses: in each one op stands ahead of the body. What is answered tells where
// the end is; from a body that is the last of its function nothing goes there.
func (e *emitter) clauses(l []api.Tree, op int, last bool) (end func()) {
	var jumps []func()
	for i := range l {
		ahead := e.bound
		miss := e.match(&l[i].L[0])
		e.put(api.Ins{Op: op})
		e.body(&l[i].L[1], last)
		e.bound = ahead
		if !last {
			jumps = append(jumps, e.ahead(api.Ins{Op: api.OJump}))
		}
		miss()
	}
	return func() {
		for _, fill := range jumps {
			fill()
		}
	}
}

func (e *emitter) receive(t *api.Tree, last bool) {
	clauses, after := split(t)
	if after == nil {
		e.put(api.Ins{Op: api.OPush, T: atom("infinity")})
	} else {
		e.value(&after.L[0])
	}
	e.put(api.Ins{Op: api.OTimer})
	peek := len(e.ins)
	none := e.ahead(api.Ins{Op: api.OPeek})
	end := e.clauses(clauses, api.OTake, last)
	e.put(api.Ins{Op: api.ONext})
	e.put(api.Ins{Op: api.OJump, A: peek})
	none()
	e.timeout(after, last)
	end()
}

// split: a TRecv's clauses, and its TAfter; nil, if there is none.
func split(t *api.Tree) (clauses []api.Tree, after *api.Tree) {
	n := len(t.L) - 1
	if t.L[n].Kind != api.TAfter {
		return t.L, nil
	}
	return t.L[:n], &t.L[n]
}

// timeout: what is done when no message came in time.
func (e *emitter) timeout(after *api.Tree, last bool) {
	if after == nil {
		e.put(api.Ins{Op: api.OPush, T: atom("timeout")})
		e.put(api.Ins{Op: api.OFail, A: 3})
		return
	}
	ahead := e.bound
	e.body(&after.L[1], last)
	e.bound = ahead
}
