package vm_test

import (
	"fmt"
	"math/rand"
	"strings"

	"rookery/api"
)

// maker makes functions out of a row of numbers that is the same in each run.
type maker struct {
	*rand.Rand
	funs []api.Fun
	f    *api.Fun
}

func newMaker(seed int64) *maker { return &maker{Rand: rand.New(rand.NewSource(seed))} }

func pick[T any](m *maker, l ...T) T { return l[m.Intn(len(l))] }

// op: an instruction as instruction reads it, without a T.
func (m *maker) op(s string, n ...any) {
	for _, x := range n {
		s += fmt.Sprint(" ", x)
	}
	m.f.Ins = append(m.f.Ins, instruction(s))
}

func (m *maker) here() int { return len(m.f.Ins) }

// lead: the instruction at that place leads to here.
func (m *maker) lead(at int) { m.f.Ins[at].A = m.here() }

func (m *maker) push(t api.Term) { m.f.Ins = append(m.f.Ins, api.Ins{Op: api.OPush, T: t}) }

// fit: an OMatch of any pattern.
func (m *maker) fit(nest, to int) {
	m.f.Ins = append(m.f.Ins, api.Ins{Op: api.OMatch, A: to, T: m.pattern(nest)})
}

// term: of a few values, so that two of them are often alike.
func (m *maker) term(nest int) api.Term {
	switch n := m.Intn(8); {
	case n == 0:
		return read(pick(m, "a", "b", "true", "undefined"))
	case n == 1:
		return read(pick(m, `""`, `"x"`, "(0,1)", "(1,0)", "#p1.1.1", "#r1.1.1", "4611686018427387903"))
	case n < 5 && nest > 0:
		t := api.Term{Kind: pick(m, api.KTuple, api.KList)}
		for range m.Intn(4) {
			t.L = append(t.L, m.term(nest-1))
		}
		return t
	}
	return api.Term{Kind: api.KInt, N: int64(m.Intn(4) - 1)}
}

func (m *maker) pattern(nest int) api.Term {
	switch n := m.Intn(10); {
	case n < 4 && m.f.Slots > 0:
		return read(pick(m, "V", "V", "B") + itoa(m.Intn(m.f.Slots)))
	case n == 4:
		return read("_")
	case n > 6 && nest > 0:
		t := api.Term{Kind: pick(m, api.KTuple, api.KList)}
		for range m.Intn(4) {
			t.L = append(t.L, m.pattern(nest-1))
		}
		return t
	}
	return m.term(1)
}

func (m *maker) values(n, nest int) {
	for range n {
		m.value(nest)
	}
}

// value: code that leaves one value more on the stack, or does not go on.
func (m *maker) value(nest int) {
	if nest == 0 {
		if m.f.Slots > 0 && m.Intn(3) > 0 {
			m.op("Load", m.Intn(m.f.Slots))
			return
		}
		m.push(m.term(2))
		return
	}
	nest--
	switch m.Intn(14) {
	case 0, 1:
		n := m.Intn(4)
		m.values(n, nest)
		m.op(pick(m, "Tuple", "List"), n)
	case 2:
		m.values(2, nest)
		m.op("Send")
	case 3:
		m.numbers(nest)
	case 4:
		name := pick(m, builtins...)
		m.values(atoi(name[len(name)-1:]), nest)
		m.op("Bif", name)
	case 5, 6:
		n := m.Intn(len(m.funs))
		m.values(m.funs[n].Arity, nest)
		m.op("Call", fmt.Sprint(n, "/", m.funs[n].Arity))
	case 7:
		m.equal(nest)
	case 8:
		m.choice(nest)
	case 9:
		m.wait(nest)
	case 10:
		m.value(nest)
		m.op("Pop")
		m.value(nest)
	case 11:
		m.loop(nest)
	case 12:
		m.lists(nest)
	default:
		m.detour(nest)
	}
}

// numbers: mostly of numbers, so that more comes of it than badarg.
func (m *maker) numbers(nest int) {
	for range 2 {
		if m.Intn(4) > 0 {
			m.push(read(pick(m, "0", "0", "1", "2", "-3", "(1,2)", "4611686018427387903")))
		} else {
			m.value(nest)
		}
	}
	m.op("Bin", pick(m, signs...))
	if m.Intn(3) == 0 {
		m.op("Neg")
	}
}

// lists: a builtin that takes a list or a tuple, which it mostly gets.
func (m *maker) lists(nest int) {
	switch m.Intn(4) {
	case 0:
		m.push(read(pick(m, "0", "1", "2", "3")))
		m.values(2, nest)
		m.op("Tuple", 2)
		m.op("Bif", "elem/2")
	case 1:
		m.values(2, nest)
		m.op("List", pick(m, 1, 2))
		if m.f.Ins[m.here()-1].A == 1 {
			m.op("Bif", "cons/2")
		} else {
			m.op("Bif", pick(m, "hd/1", "tl/1", "len/1"))
		}
	case 2:
		m.value(nest)
		m.op("Bif", pick(m, "conj/1", "len/1", "hd/1", "tl/1"))
	default:
		m.op("Push", pick(m, "1", "2", "a"))
		m.op("Push", pick(m, "1", "-2", "[]"))
		m.op("Bif", pick(m, "cx/2", "cons/2"))
	}
}

func (m *maker) equal(nest int) {
	m.value(nest)
	at := m.here()
	m.fit(2, at+2)
	m.op("Jump", at+3)
	if m.Intn(2) == 0 {
		m.op("Fail", 1+m.Intn(3))
	} else {
		m.op("Neg")
	}
}

// choice: of two bodies, one by one.
func (m *maker) choice(nest int) {
	m.value(nest)
	at := m.here()
	m.fit(2, 0)
	m.op("Pop")
	m.value(nest)
	jump := m.here()
	m.op("Jump", 0)
	m.lead(at)
	m.op("Pop")
	m.value(nest)
	m.lead(jump)
}

// wait: a receive, with an after or a failure behind it.
func (m *maker) wait(nest int) {
	m.value(nest)
	m.op("Timer")
	peek := m.here()
	m.op("Peek", 0)
	m.fit(m.Intn(3), 0)
	m.op(pick(m, "Take", "Take", "Take", "Next"))
	m.value(nest)
	jump := m.here()
	m.op("Jump", 0)
	m.lead(peek + 1)
	m.op("Next")
	m.op("Jump", peek)
	m.lead(peek)
	m.value(nest)
	if m.Intn(3) == 0 {
		m.op("Fail", 3)
	}
	m.lead(jump)
}

// loop: what does not fit goes back, so that only a turn, an ask or a slot that
// another way sets ends it; mostly the way back is another one's.
func (m *maker) loop(nest int) {
	start := m.here()
	m.value(nest)
	if m.Intn(4) > 0 {
		m.fit(2, m.here()) // to its own place: it does not fit, or goes on
		return
	}
	at := m.here()
	m.fit(1, 0)
	out := m.here()
	m.op("Jump", 0)
	m.lead(at)
	m.op("Pop")
	m.op("Jump", start)
	m.lead(out)
}

// detour: instructions that nothing leads to are jumped over.
func (m *maker) detour(nest int) {
	at := m.here()
	m.op("Jump", 0)
	for range m.Intn(3) {
		m.op(pick(m, "Pop", "Neg", "Ret", "Send", "Push a", "Timer", "Fail 1", "Jump 0"))
	}
	m.lead(at)
	m.value(nest)
}

// right: functions of which nothing is wrong, if they are not too long.
func (m *maker) right(nest int) []api.Fun {
	m.funs = nil
	for i := range 1 + m.Intn(4) {
		arity := m.Intn(4)
		m.funs = append(m.funs, api.Fun{Name: "f" + itoa(i), Arity: arity, Slots: arity + m.Intn(4)})
	}
	for i := range m.funs {
		m.f = &m.funs[i]
		n := m.Intn(len(m.funs))
		if m.Intn(3) == 0 {
			m.values(m.Intn(3), nest-1)
			m.values(m.funs[n].Arity, nest-1)
			m.op("Tail", fmt.Sprint(n, "/", m.funs[n].Arity))
			continue
		}
		m.values(1+m.Intn(3), nest)
		m.op("Ret")
	}
	return m.funs
}

// shape: what a program holds, for a count of what was made.
func shape(l []api.Fun) string {
	var out []string
	for _, f := range l {
		for _, in := range f.Ins {
			out = append(out, opNames[in.Op-1])
		}
	}
	return strings.Join(out, " ")
}
