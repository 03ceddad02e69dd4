package code_test

import (
	"slices"
	"testing"

	"rookery/api"
	"rookery/code"
)

// turned: the functions in another order, to[i] being the new number of i, and A
// of OCall and OTail turned along.
func turned(l []api.Fun, to []int) []api.Fun {
	out := make([]api.Fun, len(l))
	for i, f := range copied(l) {
		for j := range f.Ins {
			if in := &f.Ins[j]; in.Op == api.OCall || in.Op == api.OTail {
				in.A = to[in.A]
			}
		}
		out[to[i]] = f
	}
	return out
}

// wantTurned: OK in another order, and the heights of each function are its own.
func wantTurned(t testing.TB, l []api.Fun, to []int) {
	t.Helper()
	other := turned(l, to)
	if f, i, e := code.Check(other); f != 0 || i != 0 || e != api.OK {
		t.Errorf("P18.3: in another order Check of %s: %d, %d, %d", show(other), f, i, e)
	}
	for i, f := range l {
		if a, b := code.Heights(l, i), code.Heights(other, to[i]); !slices.Equal(a, b) || len(a) != len(f.Ins) {
			t.Errorf("P18.3: in another order Heights of %s are %d, not %d", show(funs(f)), b, a)
		}
		if n := code.Find(other, f.Name, f.Arity); n != to[i] {
			t.Errorf("P18.3: in another order Find of %s/%d: %d; want %d", f.Name, f.Arity, n, to[i])
		}
	}
}

func TestP18_3AnyOrder(t *testing.T) {
	m := newMaker(31)
	several := 0
	for i := range 6000 {
		l := copied(m.right())
		if i%2 == 0 {
			l = copied(m.spoil(l))
		}
		if _, _, e := code.Check(l); e != api.OK {
			continue
		}
		if len(l) > 1 {
			several++
		}
		for range 3 {
			wantTurned(t, l, m.Perm(len(l)))
		}
	}
	if several < 2000 {
		t.Errorf("P18.3: only %d lists of several functions were turned", several)
	}
}

func TestP18_3AllOrdersOfFew(t *testing.T) {
	l := ordinary()
	var each func(to []int)
	each = func(to []int) {
		if len(to) == len(l) {
			wantTurned(t, l, to)
			return
		}
		for i := range l {
			if !slices.Contains(to, i) {
				each(append(slices.Clone(to), i))
			}
		}
	}
	each(nil)
}

func TestP18_3Of64(t *testing.T) {
	m := newMaker(33)
	l := numbered(64)
	for i := range l {
		to := m.Intn(64)
		l[i].Ins = row(ones(9), op(api.OCall, to, l[to].Arity), op(api.OPop), ones(9), op(api.OTail, i, l[i].Arity))
	}
	wantRight(t, "64 that call each other", l...)
	for range 8 {
		wantTurned(t, l, m.Perm(64))
	}
}

// Where A is not turned along, it may well be wrong.
func TestP18_3NotTurnedAlong(t *testing.T) {
	f, g := fun(op(api.OTail, 0)), named("g", 1)
	wantRight(t, "as they stand", f, g)
	wantCheck(t, "turned, but for A", funs(g, f), 1, 0, api.ErrCodeJump)
}
