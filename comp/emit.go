package comp

import (
	"strings"

	"rookery/api"
	"rookery/check"
	"rookery/code"
)

// signs: in the order of OBin's A, from 1 on.
var signs = [...]string{"+", "-", "*", "/", "rem", "==", "/=", "<", ">", "=<", ">="}

func signNumber(s string) int {
	for i := range signs {
		if signs[i] == s {
			return i + 1
		}
	}
	return 0
}

// functions: of a program that check finds right. The heads come first, since a
// call may be of a function that stands behind it.
func functions(t *api.Tree) []api.Fun {
	funs := make([]api.Fun, len(t.L))
	for i := range t.L {
		funs[i] = api.Fun{Name: strings.Clone(t.L[i].S), Arity: arity(&t.L[i])}
	}
	for i := range t.L {
		f := &t.L[i]
		e := emitter{known: knownOf(f, funs)}
		e.body(&f.L[arity(f)], true)
		funs[i].Slots, funs[i].Ins = e.count, e.ins
	}
	return funs
}

// emitter puts a function's instructions one behind the other.
type emitter struct {
	known
	ins []api.Ins
}

func (e *emitter) put(in api.Ins) { e.ins = append(e.ins, in) }

// ahead puts an instruction whose A lies ahead of it: what it answers makes A the
// place that is put next then.
func (e *emitter) ahead(in api.Ins) func() {
	at := len(e.ins)
	e.put(in)
	return func() { e.ins[at].A = len(e.ins) }
}

// body: its last expression may be the last one of the function.
func (e *emitter) body(t *api.Tree, last bool) {
	n := len(t.L) - 1
	for i := range n {
		e.value(&t.L[i])
		e.put(api.Ins{Op: api.OPop})
	}
	if last {
		e.last(&t.L[n])
	} else {
		e.value(&t.L[n])
	}
}

// last: the last code of an expression.
func (e *emitter) last(t *api.Tree) {
	switch t.Kind {
	case api.TCase:
		e.choice(t, true)
		return
	case api.TRecv:
		e.receive(t, true)
		return
	case api.TCall:
		if in := e.call(t); in.Op == api.OCall {
			e.values(t.L)
			in.Op = api.OTail
			e.put(in)
			return
		}
	}
	e.value(t)
	e.put(api.Ins{Op: api.ORet})
}

func (e *emitter) values(l []api.Tree) {
	for i := range l {
		e.value(&l[i])
	}
}

// value: the code of an expression, which leaves its value on the stack.
func (e *emitter) value(t *api.Tree) {
	switch t.Kind {
	case api.TVar:
		e.put(api.Ins{Op: api.OLoad, A: e.slots[t.S]})
	case api.TTuple:
		e.join(t, api.Ins{Op: api.OTuple, A: len(t.L)})
	case api.TList:
		e.join(t, api.Ins{Op: api.OList, A: len(t.L)})
	case api.TNeg:
		e.join(t, api.Ins{Op: api.ONeg})
	case api.TBin:
		e.join(t, api.Ins{Op: api.OBin, A: signNumber(t.S)})
	case api.TSend:
		e.join(t, api.Ins{Op: api.OSend})
	case api.TCall:
		e.join(t, e.call(t))
	case api.TEqual:
		e.equal(t)
	case api.TCase:
		e.choice(t, false)
	case api.TRecv:
		e.receive(t, false)
	default:
		e.put(api.Ins{Op: api.OPush, T: literal(t)})
	}
}

// join: the parts' values, and what makes one of them.
func (e *emitter) join(t *api.Tree, in api.Ins) {
	e.values(t.L)
	e.put(in)
}

// call: the instruction behind the arguments. No function is named as a builtin
// of as many arguments.
func (e *emitter) call(t *api.Tree) api.Ins {
	args := len(t.L)
	if n := check.Builtin(t.S, args); n != 0 {
		return api.Ins{Op: api.OBif, A: n}
	}
	return api.Ins{Op: api.OCall, A: code.Find(e.funs, t.S, args), B: args}
}
