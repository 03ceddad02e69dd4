package comp_test

import (
	"math"
	"math/rand"
	"slices"
	"strings"

	"rookery/api"
)

// maker makes programs and trees out of a row of numbers that is the same in
// each run. It knows which names are bound, and which functions there are.
type maker struct {
	*rand.Rand
	bound []string
	funs  []api.Tree
}

func newMaker(seed int64) *maker { return &maker{Rand: rand.New(rand.NewSource(seed))} }

func pick[T any](m *maker, l ...T) T { return l[m.Intn(len(l))] }

func (m *maker) several(from, to int, f func() api.Tree) []api.Tree {
	var out []api.Tree
	for range from + m.Intn(to-from+1) {
		out = append(out, f())
	}
	return out
}

func (m *maker) name() string { return pick(m, "A", "B", "C", "X", "Y", "_z", "Long_1") }

func (m *maker) plain() api.Tree {
	switch m.Intn(4) {
	case 0:
		return integer(pick[int64](m, 0, 1, 9, api.MaxInt))
	case 1:
		return atomic(pick(m, "a", "b", "main", "hd"))
	case 2:
		return raw(m.Intn(3))
	}
	return neg(integer(pick[int64](m, 0, 1, 9, api.MaxInt)))
}

func (m *maker) leaf() api.Tree {
	if len(m.bound) > 0 && m.Intn(3) > 0 {
		return variable(pick(m, m.bound...))
	}
	return m.plain()
}

func (m *maker) pattern(nest int) api.Tree {
	switch n := m.Intn(6); {
	case n < 2:
		s := m.name()
		m.bound = append(m.bound, s)
		return variable(s)
	case n == 2:
		return variable("_")
	case n == 3 || nest == 0:
		return m.plain()
	}
	return tree(pick(m, api.TTuple, api.TList), "", m.several(0, 3, func() api.Tree { return m.pattern(nest - 1) })...)
}

// apart: what f binds is forgotten behind it.
func (m *maker) apart(f func() api.Tree) api.Tree {
	was := slices.Clone(m.bound)
	x := f()
	m.bound = was
	return x
}

func (m *maker) clause(nest int) api.Tree {
	return m.apart(func() api.Tree {
		p := m.pattern(2)
		return tree(api.TClause, "", p, m.body(nest))
	})
}

func (m *maker) body(nest int) api.Tree {
	return body(m.several(1, 3, func() api.Tree { return m.expr(nest) })...)
}

// expr: one that is right, if all functions that it calls are there.
func (m *maker) expr(nest int) api.Tree {
	if nest == 0 || m.Intn(5) == 0 {
		return m.leaf()
	}
	one := func() api.Tree { return m.expr(nest - 1) }
	switch m.Intn(11) {
	case 0, 1:
		return tree(pick(m, api.TTuple, api.TList), "", m.several(0, 3, one)...)
	case 2:
		return neg(one())
	case 3:
		return tree(api.TBin, pick(m, signs...), one(), one())
	case 4:
		return tree(api.TSend, "", one(), one())
	case 5, 6:
		return m.call(one)
	case 7:
		x := one()
		return choice(x, m.several(1, 3, func() api.Tree { return m.clause(nest - 1) })...)
	case 8:
		return m.receive(nest - 1)
	}
	x := one()
	return equal(m.pattern(2), x)
}

func (m *maker) call(one func() api.Tree) api.Tree {
	if m.Intn(2) == 0 {
		name, args, _ := strings.Cut(pick(m, builtins...), "/")
		n := int(args[0] - '0')
		return call(name, m.several(n, n, one)...)
	}
	f := pick(m, m.funs...)
	return call(f.S, m.several(len(f.L), len(f.L), one)...)
}

func (m *maker) receive(nest int) api.Tree {
	how := m.Intn(3)
	var last []api.Tree
	if how > 0 {
		x := m.expr(nest)
		last = []api.Tree{tree(api.TAfter, "", x, m.apart(func() api.Tree { return m.body(nest) }))}
	}
	least := 1
	if how > 0 {
		least = 0
	}
	l := m.several(least, 2, func() api.Tree { return m.clause(nest) })
	return receive(append(l, last...)...)
}

// prog: a right one, whose bodies nest at most so often.
func (m *maker) prog(nest int) api.Tree {
	m.funs = []api.Tree{tree(api.TFun, "main")}
	for _, s := range []string{"f", "g", "h", "hd"} {
		for n := range 4 {
			if m.Intn(6) == 0 && !(s == "hd" && n == 1) {
				m.funs = append(m.funs, tree(api.TFun, s, m.params(n)...))
			}
		}
	}
	m.Shuffle(len(m.funs), func(i, k int) { m.funs[i], m.funs[k] = m.funs[k], m.funs[i] })
	p := program()
	for _, f := range m.funs {
		p.L = append(p.L, m.function(f, nest))
	}
	return p
}

// function: one with a body; f has its parameters alone.
func (m *maker) function(f api.Tree, nest int) api.Tree {
	m.bound = nil
	for _, x := range f.L {
		if x.S != "_" {
			m.bound = append(m.bound, x.S)
		}
	}
	b := m.body(nest)
	return tree(api.TFun, f.S, append(slices.Clone(f.L), b)...)
}

func (m *maker) params(n int) []api.Tree {
	names := []string{"A", "B", "C", "P", "_", "_"}
	m.Shuffle(len(names), func(i, k int) { names[i], names[k] = names[k], names[i] })
	var out []api.Tree
	for _, s := range names[:n] {
		out = append(out, variable(s))
	}
	return out
}

// odd: any tree.
func (m *maker) odd(nest int) api.Tree {
	x := api.Tree{Kind: pick(m, m.Intn(21)-1, 3, 5, 11)}
	if m.Intn(2) == 0 {
		x.S = pick(m, "a", "X", "_", "main", "hd", "+", "rem", "", "case", "x y")
	}
	if m.Intn(6) == 0 {
		x.N = pick[int64](m, 1, -1, math.MaxInt64)
	}
	if m.Intn(6) == 0 {
		x.B = make([]byte, m.Intn(3))
	}
	if nest > 0 {
		x.L = m.several(0, 3, func() api.Tree { return m.odd(nest - 1) })
	}
	return x
}

// spoil changes one part of x, which may stay right.
func (m *maker) spoil(x *api.Tree) {
	parts := all(x)
	p, other := pick(m, parts...), pick(m, parts...)
	switch m.Intn(14) {
	case 0:
		p.Kind = pick(m, m.Intn(20), p.Kind+1, p.Kind-1)
	case 1:
		p.S = pick(m, "", "a", "X", "_", "rem", "+", "main", "self", strings.Repeat("x", 33))
	case 2:
		p.N = pick[int64](m, -1, 1, api.MaxInt, 1<<62)
	case 3:
		p.B = make([]byte, pick(m, 0, 1, 4095, 4096, 4097))
	case 4:
		*p = pick(m, raw(4096), equal(deepTuple(25), integer(1)), high(301), tuple(repeated(integer(1), 257)...))
	case 5:
		if len(p.L) > 0 {
			i := m.Intn(len(p.L))
			p.L = slices.Concat(p.L[:i], p.L[i+1:])
		}
	case 6:
		if len(p.L) > 0 {
			i := m.Intn(len(p.L))
			p.L = slices.Concat(p.L[:i+1], p.L[i:])
		}
	case 7, 8:
		*p = copied(*other)
	case 9:
		if len(p.L) > 1 {
			i := m.Intn(len(p.L) - 1)
			l := slices.Clone(p.L)
			l[i], l[i+1] = l[i+1], l[i]
			p.L = l
		}
	default:
		m.spoilName(p)
	}
}

// spoilName: the shape stays, but a name, a call or a variable is another one.
func (m *maker) spoilName(p *api.Tree) {
	switch p.Kind {
	case api.TVar:
		p.S = m.name()
	case api.TCall:
		p.S = pick(m, "f", "g", "h", "nobody", "hd", "spawn")
	case api.TFun:
		p.S = pick(m, "main", "f", "g", "self", "node", "hd", "exit", "cx", "spawn")
	case api.TTuple, api.TList, api.TBody:
		p.L = append(slices.Clone(p.L), variable(m.name()))
	case api.TInt, api.TAtom, api.TBytes:
		*p = variable(pick(m, m.name(), "_"))
	case api.TEqual, api.TSend:
		p.Kind = api.TEqual + api.TSend - p.Kind
	}
}
