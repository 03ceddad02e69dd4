package code_test

import (
	"slices"
	"testing"

	"rookery/api"
	"rookery/code"
	"rookery/term"
)

// someFuns: right ones, spoilt ones, and each error alone.
func someFuns(seed int64) [][]api.Fun {
	m := newMaker(seed)
	out := [][]api.Fun{nil, {}, ordinary(), numbered(64), numbered(65)}
	for range 300 {
		l := copied(m.right())
		out = append(out, l, m.spoil(copied(l)), copied(m.heightsByChance()))
	}
	for _, c := range eachAlone() {
		out = append(out, funs(c.f), funs(named("g", 0), c.f))
	}
	return out
}

// roomy: l anew, its lists with spare room in which something stands.
func roomy(l []api.Fun) []api.Fun {
	out := append(copied(l), api.Fun{Name: "spare", Ins: row(ret())})[:len(l)]
	for i := range out {
		ins := make([]api.Ins, 0, len(out[i].Ins)+2)
		for _, in := range out[i].Ins {
			in.T = roomyTerm(in.T)
			ins = append(ins, in)
		}
		out[i].Ins = append(ins, op(99))[:len(ins)]
	}
	return out
}

func roomyTerm(t api.Term) api.Term {
	t.B = append(append([]byte{}, t.B...), "spare"...)[:len(t.B)]
	l := make([]api.Term, 0, len(t.L)+1)
	for _, p := range t.L {
		l = append(l, roomyTerm(p))
	}
	t.L = append(l, term.Atom("spare"))[:len(l)]
	return t
}

// whole: l with what stands in the spare room of its lists.
func whole(l []api.Fun) []api.Fun {
	out := slices.Clone(l[:cap(l)])
	for i := range l {
		out[i].Ins = slices.Clone(l[i].Ins[:cap(l[i].Ins)])
		for j := range l[i].Ins {
			out[i].Ins[j].T = wholeTerm(l[i].Ins[j].T)
		}
	}
	return out
}

func wholeTerm(t api.Term) api.Term {
	n := len(t.L)
	t.B = t.B[:cap(t.B)]
	t.L = slices.Clone(t.L[:cap(t.L)])
	for i := range n {
		t.L[i] = wholeTerm(t.L[i])
	}
	return t
}

func TestR4FunctionsAreNotChanged(t *testing.T) {
	for _, l := range someFuns(41) {
		given := roomy(l)
		was := copied(whole(given))
		code.Check(given)
		for i := range given {
			code.Heights(given, i)
			code.Find(given, given[i].Name, given[i].Arity)
		}
		if !slices.EqualFunc(given, l, sameFun) || !slices.EqualFunc(whole(given), was, sameFun) {
			t.Errorf("R4: what was handed in is changed: %s", show(l))
		}
	}
}

// What Heights answers is new each time, its spare room included.
func TestR4HeightsApart(t *testing.T) {
	l := ordinary()
	for i := range l {
		first, second := code.Heights(l, i), code.Heights(l, i)
		want := slices.Clone(first)
		for j := range first[:cap(first)] {
			first[:cap(first)][j] = 77
		}
		if !slices.Equal(second, want) || !slices.Equal(code.Heights(l, i), want) {
			t.Errorf("R4: an answer of Heights shares memory with another one: %d, %d", first, second)
		}
	}
}

// R4, R6: nothing is kept of what was handed in.
func TestR4NothingIsKept(t *testing.T) {
	l := copied(ordinary())
	code.Check(l)
	was := code.Heights(l, 0)
	l[0].Ins[0] = ret()
	if f, i, e := code.Check(l); f != 0 || i != 0 || e != api.ErrCodeStack {
		t.Errorf("R4: what was changed is not seen: %d, %d, %d", f, i, e)
	}
	l[0].Ins[0] = one()
	if got := code.Heights(l, 0); !slices.Equal(got, was) {
		t.Errorf("R4: Heights: %d; want %d", got, was)
	}
}

// R6: the same arguments, the same answers, whatever was asked in between.
func TestR6TheSameAgain(t *testing.T) {
	type answer struct {
		fun, ins int
		e        api.Errno
	}
	l := someFuns(43)
	var was []answer
	for _, x := range l {
		f, i, e := code.Check(x)
		was = append(was, answer{f, i, e})
	}
	for range 3 {
		for n, x := range slices.Backward(l) {
			f, i, e := code.Check(copied(x))
			if got := (answer{f, i, e}); got != was[n] {
				t.Errorf("R6: Check of %s: %v, then %v", show(x), was[n], got)
			}
			code.Slot("V1")
		}
	}
}

// R3: lists that are empty and lists that are nil are the same.
func TestR3Empty(t *testing.T) {
	for _, l := range someFuns(3) {
		full, none := copied(l), copied(l)
		for i := range l {
			for j := range l[i].Ins {
				a, b := &full[i].Ins[j].T, &none[i].Ins[j].T
				if len(a.B) == 0 {
					a.B, b.B = []byte{}, nil
				}
				if len(a.L) == 0 {
					a.L, b.L = []api.Term{}, nil
				}
			}
			if len(l[i].Ins) == 0 {
				full[i].Ins, none[i].Ins = []api.Ins{}, nil
			}
		}
		f, i, e := code.Check(full)
		if f2, i2, e2 := code.Check(none); f != f2 || i != i2 || e != e2 {
			t.Errorf("R3: Check of %s: %d, %d, %d with empty lists, %d, %d, %d with nil ones", show(l), f, i, e, f2, i2, e2)
		}
	}
}

// P1: terms that hold themselves, and very great ones.
func TestP1Terms(t *testing.T) {
	own := api.Term{Kind: api.KList, L: make([]api.Term, 1)}
	own.L[0] = own
	own.L[0].L = own.L
	twice := api.Term{Kind: api.KTuple, L: make([]api.Term, 2)}
	twice.L[0], twice.L[1] = twice, twice
	for _, x := range []api.Term{own, twice, {Kind: api.KList, L: make([]api.Term, 1<<20)}, term.Bytes(make([]byte, 1<<26)), {L: own.L}, {Kind: api.KVar, S: string(make([]byte, 1<<24))}} {
		for _, in := range row(push(x), fit(x, 0), api.Ins{Op: api.OPop, T: x}, api.Ins{Op: api.OCall, T: x}, api.Ins{T: x}) {
			if f, i, e := code.Check(funs(fun(op(api.OJump), in))); f != 0 || i != 1 || e != api.ErrCodeIns {
				t.Errorf("P1: a term that may not be: %d, %d, %d", f, i, e)
			}
			if got := code.Heights(funs(fun(op(api.OJump), in)), 0); len(got) != 0 {
				t.Errorf("P1: Heights with a term that may not be: %d", got)
			}
		}
	}
}

// P1: as much as may be: 64 functions of 4000 instructions.
func TestP1Great(t *testing.T) {
	l := numbered(64)
	for i := range l {
		l[i].Slots = 72
		l[i].Ins = row(one(), fit(term.Tuple(variable("V71"), variable("B0"), anything()), 3999))
		for j := 2; j < 3999; j++ {
			l[i].Ins = append(l[i].Ins, fit(anything(), (j*7919)%(j-1)+1))
		}
		l[i].Ins = append(l[i].Ins, ret())
	}
	if f, i, e := code.Check(l); f != 0 || i != 0 || e != api.OK {
		t.Errorf("P1: 64 functions of 4000 instructions: %d, %d, %d", f, i, e)
	}
	if got := code.Heights(l, 63); len(got) != 4000 || got[0] != 0 || slices.Min(got[1:]) != 1 || slices.Max(got) != 1 {
		t.Errorf("P1: Heights of 4000 instructions are others: %d", len(got))
	}
	l[63].Ins[3999] = one()
	if f, i, e := code.Check(l); f != 63 || i != 3999 || e != api.ErrCodeStack {
		t.Errorf("P1: the last instruction of the last function: %d, %d, %d", f, i, e)
	}
	if f, i, e := code.Check(make([]api.Fun, 1<<20)); f != 0 || i != 0 || e != api.ErrCodeMany {
		t.Errorf("P1: very many functions: %d, %d, %d", f, i, e)
	}
	if f, i, e := code.Check(funs(api.Fun{Name: "f", Ins: make([]api.Ins, 1<<20)})); f != 0 || i != 0 || e != api.ErrCodeMany {
		t.Errorf("P1: very many instructions: %d, %d, %d", f, i, e)
	}
}
