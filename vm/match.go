package vm

import (
	"rookery/api"
	"rookery/code"
	"rookery/term"
)

// match: does t fit a pattern of slots? If it does, the slots get what stands for
// them. (match.Match takes no more names than MaxBinds, of which a pattern of
// slots may have more.)
func (f *frame) match(p, t *api.Term) bool {
	met := make([]*api.Term, len(f.slots))
	if !f.fits(p, t, met) {
		return false
	}
	for slot, part := range met {
		if part != nil {
			f.slots[slot] = *part
		}
	}
	return true
}

// fits: met is what stands for the slots that are bound by what was gone through.
func (f *frame) fits(p, t *api.Term, met []*api.Term) bool {
	switch p.Kind {
	case api.KAny:
		return true
	case api.KVar:
		return f.meets(p.S, t, met)
	case api.KTuple, api.KList:
		if t.Kind != p.Kind || len(t.L) != len(p.L) {
			return false
		}
		for i := range p.L {
			if !f.fits(&p.L[i], &t.L[i], met) {
				return false
			}
		}
		return true
	}
	return term.Same(*p, *t)
}

func (f *frame) meets(name string, t *api.Term, met []*api.Term) bool {
	slot, bound, _ := code.Slot(name)
	switch {
	case bound:
		return term.Same(f.slots[slot], *t)
	case met[slot] != nil:
		return term.Same(*met[slot], *t)
	}
	met[slot] = t
	return true
}
