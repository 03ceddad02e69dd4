package code_test

import (
	"fmt"
	"math"
	"math/rand"
	"slices"
	"strconv"
	"testing"

	"rookery/api"
	"rookery/code"
	"rookery/term"
)

// maker makes functions out of a row of numbers that is the same in each run.
type maker struct {
	*rand.Rand
	funs []api.Fun
	f    *api.Fun
	odd  []api.Term
}

func newMaker(seed int64) *maker {
	odd := append(append(setTerms(), wrongTerms()...), variable("V1"), variable("B2"), variable("V03"), variable("X"))
	return &maker{Rand: rand.New(rand.NewSource(seed)), odd: odd}
}

func pick[T any](m *maker, l ...T) T { return l[m.Intn(len(l))] }

func (m *maker) emit(l ...api.Ins) { m.f.Ins = append(m.f.Ins, l...) }

func (m *maker) here() int { return len(m.f.Ins) }

func (m *maker) term(nest int) api.Term {
	switch n := m.Intn(6); {
	case n == 0:
		return term.Atom(pick(m, "a", "b", "true"))
	case n == 1:
		return term.Bytes([]byte{byte(n)})
	case n == 2:
		return api.Term{Kind: api.KCx, Z: complex(float64(m.Intn(5)), 1)}
	case n == 3 && nest > 0:
		return term.Tuple(m.term(nest-1), m.term(nest-1))
	case n == 4 && nest > 0:
		return term.List(m.term(nest - 1))
	}
	return term.Int(int64(m.Intn(100)))
}

func (m *maker) pattern(nest int) api.Term {
	switch n := m.Intn(6); {
	case n < 2 && m.f.Slots > 0:
		return variable(pick(m, "V", "B") + strconv.Itoa(m.Intn(m.f.Slots)))
	case n == 2:
		return anything()
	case n > 3 && nest > 0:
		return term.Tuple(m.pattern(nest-1), m.pattern(nest-1))
	}
	return m.term(1)
}

func (m *maker) values(n, nest int) {
	for range n {
		m.value(nest)
	}
}

// value: code that leaves one value more on the stack.
func (m *maker) value(nest int) {
	if nest == 0 {
		if m.f.Slots > 0 && m.Intn(2) == 0 {
			m.emit(op(api.OLoad, m.Intn(m.f.Slots)))
			return
		}
		m.emit(push(m.term(2)))
		return
	}
	nest--
	switch m.Intn(12) {
	case 0, 1:
		n := m.Intn(4)
		m.values(n, nest)
		m.emit(op(pick(m, api.OTuple, api.OList), n))
	case 2:
		m.values(2, nest)
		m.emit(pick(m, op(api.OSend), op(api.OBin, 1+m.Intn(11))))
	case 3:
		m.values(1, nest)
		m.emit(op(api.ONeg))
	case 4:
		n := 1 + m.Intn(26)
		_, args, _ := cutArity(builtins[n-1])
		m.values(args, nest)
		m.emit(op(api.OBif, n))
	case 5:
		n := m.Intn(len(m.funs))
		m.values(m.funs[n].Arity, nest)
		m.emit(op(api.OCall, n, m.funs[n].Arity))
	case 6:
		m.value(nest)
		at := m.here()
		m.emit(fit(m.pattern(2), at+2), op(api.OJump, at+3), pick(m, op(api.OFail, 1), op(api.ONeg)))
	case 7:
		m.choice(nest)
	case 8:
		m.wait(nest)
	case 9:
		m.value(nest)
		m.emit(op(api.OPop))
		m.value(nest)
	case 10:
		at := m.here()
		m.emit(op(api.OJump, 0))
		for range m.Intn(3) {
			m.emit(m.loose())
		}
		m.f.Ins[at].A = m.here()
		m.value(nest)
	default:
		m.value(nest)
	}
}

// choice: of two bodies, one by one.
func (m *maker) choice(nest int) {
	m.value(nest)
	at := m.here()
	m.emit(fit(m.pattern(2), 0), op(api.OPop))
	m.value(nest)
	jump := m.here()
	m.emit(op(api.OJump, 0))
	m.f.Ins[at].A = m.here()
	m.emit(op(api.OPop))
	m.value(nest)
	m.f.Ins[jump].A = m.here()
}

// wait: a receive, with an after or a failure behind it.
func (m *maker) wait(nest int) {
	m.value(nest)
	m.emit(op(api.OTimer))
	peek := m.here()
	m.emit(op(api.OPeek, 0), fit(m.pattern(2), 0), op(api.OTake))
	m.value(nest)
	jump := m.here()
	m.emit(op(api.OJump, 0))
	m.f.Ins[peek+1].A = m.here()
	m.emit(op(api.ONext), op(api.OJump, peek))
	m.f.Ins[peek].A = m.here()
	m.value(nest)
	if m.Intn(2) == 0 {
		m.emit(op(api.OFail, 3))
	}
	m.f.Ins[jump].A = m.here()
}

// loose: an instruction that is right by itself in a function of few others.
func (m *maker) loose() api.Ins {
	in := pick(m, one(), op(api.OPop), op(api.OTuple, m.Intn(4)), op(api.OBin, 1+m.Intn(11)), op(api.ONeg), ret(), op(api.OBif, 1+m.Intn(26)), op(api.OSend), op(api.OFail, 1+m.Intn(3)),
		op(api.OTimer), op(api.ONext), op(api.OTake), fit(m.pattern(1), m.Intn(m.here()+2)), op(api.OJump, m.Intn(m.here()+2)), op(api.OPeek, m.Intn(m.here()+2)))
	if n := m.Intn(2 * len(m.funs)); n < len(m.funs) {
		in = op(pick(m, api.OCall, api.OTail), n, m.funs[n].Arity)
	}
	return in
}

func cutArity(s string) (string, int, bool) {
	n := int(s[len(s)-1] - '0')
	return s[:len(s)-2], n, true
}

// right: functions of which nothing is wrong, if they are not too long.
func (m *maker) right() []api.Fun {
	m.funs = nil
	for i := range 1 + m.Intn(4) {
		arity := m.Intn(4)
		m.funs = append(m.funs, api.Fun{Name: fmt.Sprintf("f%d", i), Arity: arity, Slots: arity + m.Intn(4)})
	}
	for i := range m.funs {
		m.f = &m.funs[i]
		n := m.Intn(len(m.funs))
		if m.Intn(3) == 0 {
			m.values(m.funs[n].Arity, 2)
			m.emit(op(api.OTail, n, m.funs[n].Arity))
			continue
		}
		m.value(1 + m.Intn(4))
		m.emit(ret())
	}
	return m.funs
}

// row of instructions of which each one is right, but their heights by chance.
func (m *maker) heightsByChance() []api.Fun {
	m.funs = funs(api.Fun{Name: "f", Slots: 2}, named("g", 1), named("h", 2))
	m.f = &m.funs[0]
	n := 2 + m.Intn(12)
	for range n {
		m.emit(m.loose())
	}
	for i := range m.f.Ins {
		if in := &m.f.Ins[i]; in.Op == api.OMatch || in.Op == api.OJump || in.Op == api.OPeek {
			in.A = m.Intn(n)
		}
		if m.Intn(3) == 0 {
			m.f.Ins[i] = one()
		}
	}
	return m.funs
}

// number: small, near to an edge, or far.
func (m *maker) number() int {
	switch m.Intn(4) {
	case 0:
		return pick(m, far...)
	case 1:
		return pick(m, -1, 0, 1, 2, 3, 8, 9, 11, 12, 26, 27, 71, 72, 73, 256, 257)
	}
	return m.Intn(12) - 2
}

// spoil: changes one thing, which may leave it as right as it was.
func (m *maker) spoil(l []api.Fun) []api.Fun {
	f := &l[m.Intn(len(l))]
	if len(f.Ins) == 0 {
		return l
	}
	at := m.Intn(len(f.Ins))
	in := &f.Ins[at]
	switch m.Intn(16) {
	case 0:
		f.Name = pick(m, "", "F", "f0", "f1", "x", "_", "a b", l[m.Intn(len(l))].Name)
	case 1:
		f.Arity = m.number()
	case 2:
		f.Slots = m.number()
	case 3:
		f.Ins = f.Ins[:at]
	case 4:
		f.Ins = slices.Delete(f.Ins, at, at+1)
	case 5:
		f.Ins = slices.Insert(f.Ins, at, pick(m, one(), op(api.OPop), ret(), op(api.ONeg)))
	case 6, 7:
		in.A = m.number()
	case 8:
		in.B = m.number()
	case 9:
		in.Op = m.number()
	case 10:
		in.Op = 1 + m.Intn(19)
	case 11, 12:
		in.T = pick(m, m.odd...)
	case 13:
		*in = f.Ins[m.Intn(len(f.Ins))]
	case 14:
		in.A = m.Intn(len(f.Ins))
	case 15:
		l = append(l, l[m.Intn(len(l))])
	}
	return l
}

// wantAsked: Check's answer, and Heights', are those that are worked out apart.
func wantAsked(t testing.TB, what string, l []api.Fun) api.Errno {
	t.Helper()
	f, i, e := asked(l)
	if f2, i2, e2 := code.Check(l); f2 != f || i2 != i || e2 != e {
		t.Errorf("P18.1: %s: Check of %s: %d, %d, %d; want %d, %d, %d", what, show(l), f2, i2, e2, f, i, e)
	}
	for n := -1; n <= len(l); n++ {
		var want []int
		if e == api.OK && 0 <= n && n < len(l) {
			want, _, _ = heights(l[n].Ins)
		}
		wantList(t, what+": Heights", code.Heights(l, n), want)
	}
	return e
}

func TestP18_1MadeRight(t *testing.T) {
	m := newMaker(1)
	long := 0
	for range 6000 {
		l := m.right()
		if e := wantAsked(t, "made right", l); e != api.OK {
			t.Errorf("P18.1: what was made right is refused: %d: %s", e, show(l))
		}
		for _, f := range l {
			long = max(long, len(f.Ins))
		}
	}
	if long < 50 {
		t.Errorf("the longest function has only %d instructions", long)
	}
}

func TestP18_1MadeWrong(t *testing.T) {
	m := newMaker(2)
	met := map[api.Errno]int{}
	for i := range 30000 {
		l := copied(m.right())
		for range 1 + i%3 {
			l = copied(m.spoil(l))
		}
		met[wantAsked(t, "spoilt", l)]++
	}
	for _, e := range []api.Errno{api.OK, api.ErrCodeMany, api.ErrCodeTwice, api.ErrCodeFun, api.ErrCodeIns, api.ErrCodeJump, api.ErrCodeStack} {
		if met[e] < 100 {
			t.Errorf("only %d of the spoilt functions are told as %d", met[e], e)
		}
	}
}

func TestP18_1MadeByChance(t *testing.T) {
	m := newMaker(3)
	met := map[api.Errno]int{}
	places := map[int]int{}
	for range 60000 {
		l := m.heightsByChance()
		e := wantAsked(t, "by chance", l)
		met[e]++
		if _, at, _ := code.Check(l); e != api.OK {
			places[at]++
		}
	}
	if met[api.OK] < 1000 || met[api.ErrCodeStack] < 1000 || len(met) != 2 || len(places) < 10 {
		t.Errorf("by chance: %d, at %d", met, places)
	}
}

// Instructions whose fields are by chance.
func TestP18_1MadeOfAnything(t *testing.T) {
	m := newMaker(4)
	for range 20000 {
		l := make([]api.Fun, 1+m.Intn(3))
		for i := range l {
			l[i] = api.Fun{Name: pick(m, "a", "b", "c", "d", "A"), Arity: m.Intn(10) - 1, Slots: pick(m, 8, 9, 72, m.number())}
			for range m.Intn(5) {
				in := api.Ins{Op: m.Intn(22) - 1, A: m.Intn(6) - 1}
				if m.Intn(4) == 0 {
					in.B = m.number()
				}
				if m.Intn(3) == 0 {
					in.T = pick(m, m.odd...)
				}
				l[i].Ins = append(l[i].Ins, in)
			}
		}
		wantAsked(t, "anything", l)
	}
	l := funs(api.Fun{Name: "f", Arity: math.MinInt, Slots: math.MaxInt})
	wantAsked(t, "edges of int", l)
}
