package match

import (
	"strings"

	"rookery/api"
	"rookery/term"
)

func first(c byte) bool { return 'A' <= c && c <= 'Z' || c == '_' }

func inName(c byte) bool { return first(c) || 'a' <= c && c <= 'z' || '0' <= c && c <= '9' }

// weigh: the size of p, which stands so deep, and of the parts ahead of it, or
// what is wrong first. A part's elements are gone through only if it is right
// itself, so this ends for a pattern that holds itself.
func weigh(p *api.Term, deep, ahead int) (int, api.Errno) {
	size := ahead + 1 + len(p.B)
	if deep > api.MaxDeep {
		return 0, api.ErrTermDeep
	}
	if size > api.MaxSize {
		return 0, api.ErrTermSize
	}
	if e := fault(p); e != api.OK {
		return 0, e
	}
	for i := range p.L {
		var e api.Errno
		if size, e = weigh(&p.L[i], deep+1, size); e != api.OK {
			return 0, e
		}
	}
	return size, api.OK
}

// fault: what is wrong with the part p alone, whatever its elements are. (Those
// kinds that have none are refused for a field, ahead of what stands in it.)
func fault(p *api.Term) api.Errno {
	switch p.Kind {
	case api.KAny:
		if p.S != "" || !bare(p) {
			return api.ErrTermField
		}
		return api.OK
	case api.KVar:
		if !bare(p) {
			return api.ErrTermField
		}
		if !Name(p.S) {
			return api.ErrMatchVar
		}
		return api.OK
	case api.KTuple, api.KList:
		alone := *p
		alone.L = nil
		e := term.Check(alone)
		if e == api.OK && len(p.L) > api.MaxWide {
			return api.ErrTermWide
		}
		return e
	}
	return term.Check(*p)
}

// bare: are all fields zero but S?
func bare(p *api.Term) bool {
	return p.N == 0 && p.Z == 0 && p.Id == api.Id{} && len(p.B) == 0 && len(p.L) == 0
}

// names: those in a right pattern, each once, in the order of their first part.
func names(p api.Term) []string {
	var out []string
	met := map[string]int{}
	var look func(p *api.Term)
	look = func(p *api.Term) {
		if p.Kind == api.KVar {
			if met[p.S] == 0 {
				out = append(out, strings.Clone(p.S))
			}
			met[p.S]++
		}
		for i := range p.L {
			look(&p.L[i])
		}
	}
	look(&p)
	return out
}
