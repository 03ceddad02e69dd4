package match

import (
	"strings"

	"rookery/api"
	"rookery/term"
)

// meanings is what stands for names. The terms share memory with what was
// handed in: they are copied where they are answered, and not ahead of it,
// since most of them never are.
type meanings map[string]api.Term

// meaningsOf: false, if the binds are not right.
func meaningsOf(known []api.Bind) (meanings, bool) {
	if len(known) > api.MaxBinds {
		return nil, false
	}
	m := make(meanings, len(known))
	for _, b := range known {
		_, twice := m[b.Name]
		if twice || !Name(b.Name) || term.Check(b.T) != api.OK {
			return nil, false
		}
		m[b.Name] = b.T
	}
	return m, true
}

func (m meanings) copy() meanings {
	out := make(meanings, len(m))
	for name, t := range m {
		out[name] = t
	}
	return out
}

// bind: in memory of its own.
func bind(name string, t api.Term) api.Bind {
	return api.Bind{Name: strings.Clone(name), T: term.Copy(t)}
}

// two is a part of a pattern and the term that is to fit it.
type two struct{ p, t *api.Term }

// elements: the last first, so that the first is the next to be taken.
func (x two) elements() []two {
	out := make([]two, 0, len(x.p.L))
	for i := len(x.p.L) - 1; i >= 0; i-- {
		out = append(out, two{&x.p.L[i], &x.t.L[i]})
	}
	return out
}

// fit: does t fit p? Names that nothing stands for get what they meet, as the
// walk goes through the parts in their order. It stops at the first two that
// don't fit, so that they are left.
func (m meanings) fit(p, t *api.Term) bool {
	left := []two{{p, t}}
walk:
	for len(left) > 0 {
		last := len(left) - 1
		x := left[last]
		var inner []two
		switch x.p.Kind {
		case api.KAny:
		case api.KVar:
			if !m.meet(x.p.S, x.t) {
				break walk
			}
		case api.KTuple, api.KList:
			if x.t.Kind != x.p.Kind || len(x.t.L) != len(x.p.L) {
				break walk
			}
			inner = x.elements()
		default:
			if !term.Same(*x.p, *x.t) {
				break walk
			}
		}
		left = append(left[:last], inner...)
	}
	return len(left) == 0
}

// meet: a name that nothing stands for yet gets t.
func (m meanings) meet(name string, t *api.Term) bool {
	if known, ok := m[name]; ok {
		return term.Same(known, *t)
	}
	m[name] = *t
	return true
}

// fill: p, which is right, with what stands for its names, in lists of its own
// that hold what m holds; false, if a part is left for which nothing stands.
func (m meanings) fill(p api.Term) (api.Term, bool) {
	switch p.Kind {
	case api.KAny:
		return api.Term{}, false
	case api.KVar:
		t, ok := m[p.S]
		return t, ok
	}
	l := make([]api.Term, len(p.L))
	for i, x := range p.L {
		t, ok := m.fill(x)
		if !ok {
			return api.Term{}, false
		}
		l[i] = t
	}
	p.L = l
	return p, true
}
