package match_test

import (
	"fmt"
	"math"
	"slices"
	"strings"
	"testing"

	"rookery/api"
	"rookery/match"
)

// What the chapter's words ask for, worked out apart from the program.

const (
	small = "abcdefghijklmnopqrstuvwxyz"
	great = "ABCDEFGHIJKLMNOPQRSTUVWXYZ"
	more  = small + great + "0123456789_"
)

func askedName(s, first string) bool {
	return s != "_" && s != "" && len(s) <= 32 && strings.Contains(first, s[:1]) && strings.Trim(s, more) == ""
}

// partsOf: a term's parts, with how deep each stands.
func partsOf(x api.Term, deep int) (parts []api.Term, depths []int) {
	parts, depths = []api.Term{x}, []int{deep}
	for _, e := range x.L {
		p, d := partsOf(e, deep+1)
		parts, depths = append(parts, p...), append(depths, d...)
	}
	return parts, depths
}

// askedCheck: kinds is the greatest kind that there is.
func askedCheck(x api.Term, kinds int) api.Errno {
	parts, depths := partsOf(x, 1)
	size := 0
	for i, p := range parts {
		size += 1 + len(p.B)
		wrong := []bool{
			depths[i] > 24, size > 4096, p.Kind < 1 || p.Kind > kinds,
			p.Kind != 1 && p.N != 0 || p.Kind != 2 && p.Z != 0 || p.Kind != 3 && p.Kind != 9 && p.S != "" || p.Kind != 4 && p.Kind != 5 && p.Id != (api.Id{}) ||
				p.Kind != 6 && p.Kind != 7 && len(p.L) > 0 || p.Kind != 8 && len(p.B) > 0,
			!askedValue(p), len(p.L) > 256,
		}
		switch n := slices.Index(wrong, true); {
		case n == 4 && p.Kind == 9:
			return api.ErrMatchVar
		case n >= 0:
			return api.ErrTermDeep + api.Errno(n)
		}
	}
	return api.OK
}

func askedValue(p api.Term) bool {
	switch p.Kind {
	case 1:
		return p.N >= -1<<62 && p.N <= 1<<62-1
	case 2:
		for _, x := range []float64{real(p.Z), imag(p.Z)} {
			if math.IsNaN(x) || math.IsInf(x, 0) || x == 0 && math.Signbit(x) {
				return false
			}
		}
	case 3:
		return askedName(p.S, small)
	case 4, 5:
		return p.Id.Node >= 1 && p.Id.Node <= 64 && p.Id.Boot > 0 && p.Id.N > 0
	case 9:
		return askedName(p.S, great+"_")
	}
	return true
}

func askedVars(p api.Term) []string {
	var out []string
	if askedCheck(p, 10) != api.OK {
		return nil
	}
	parts, _ := partsOf(p, 1)
	for _, x := range parts {
		if x.Kind == 9 && !slices.Contains(out, x.S) {
			out = append(out, x.S)
		}
	}
	return out
}

func askedBinds(known []api.Bind) bool {
	names := namesOf(known)
	for i, b := range known {
		if !askedName(b.Name, great+"_") || slices.Index(names, b.Name) != i || askedCheck(b.T, 8) != api.OK {
			return false
		}
	}
	return len(known) <= 64
}

func lookUp(l []api.Bind, s string) int { return slices.Index(namesOf(l), s) }

// askedFit: what stands for names behind p, if x fits it.
func askedFit(p, x api.Term, l []api.Bind) ([]api.Bind, bool) {
	switch p.Kind {
	case 10:
		return l, true
	case 9:
		if i := lookUp(l, p.S); i >= 0 {
			return l, equal(l[i].T, x)
		}
		return append(slices.Clone(l), bind(p.S, x)), true
	case 6, 7:
		if p.Kind != x.Kind || len(p.L) != len(x.L) {
			return nil, false
		}
		for i := range p.L {
			var ok bool
			if l, ok = askedFit(p.L[i], x.L[i], l); !ok {
				return nil, false
			}
		}
		return l, true
	}
	return l, equal(p, x)
}

func askedMatch(p, x api.Term, known []api.Bind) ([]api.Bind, bool, api.Errno) {
	if e := askedCheck(p, 10); e != api.OK {
		return nil, false, e
	}
	if e := askedCheck(x, 8); e != api.OK {
		return nil, false, e
	}
	if !askedBinds(known) {
		return nil, false, api.ErrMatchBind
	}
	l, ok := askedFit(p, x, known)
	if !ok {
		return nil, false, api.OK
	}
	if len(l) > 64 {
		return nil, false, api.ErrMatchMany
	}
	out := slices.Clone(known)
	for _, s := range askedVars(p) {
		if lookUp(known, s) < 0 {
			out = append(out, l[lookUp(l, s)])
		}
	}
	return out, true, api.OK
}

func askedFilled(p api.Term, known []api.Bind) api.Term {
	if p.Kind == 9 {
		return known[lookUp(known, p.S)].T
	}
	l := make([]api.Term, len(p.L))
	for i, x := range p.L {
		l[i] = askedFilled(x, known)
	}
	p.L = l
	return p
}

func askedFill(p api.Term, known []api.Bind) (api.Term, api.Errno) {
	if e := askedCheck(p, 10); e != api.OK {
		return api.Term{}, e
	}
	if !askedBinds(known) {
		return api.Term{}, api.ErrMatchBind
	}
	parts, _ := partsOf(p, 1)
	for _, x := range parts {
		if x.Kind == 10 || x.Kind == 9 && lookUp(known, x.S) < 0 {
			return api.Term{}, api.ErrMatchFree
		}
	}
	full := askedFilled(p, known)
	if e := askedCheck(full, 8); e != api.OK {
		return api.Term{}, e
	}
	return full, api.OK
}

// wantOften: a test with made things tells little of what was hardly made.
func wantOften(t *testing.T, what string, seen map[string]int, least int, want ...string) {
	t.Helper()
	for _, s := range want {
		if seen[s] < least {
			t.Errorf("%s: only %d were made that ask for %s", what, seen[s], s)
		}
	}
}

func TestP5_1Made(t *testing.T) {
	m := newMaker(51)
	seen := map[string]int{}
	for i := range 10000 {
		p := m.pattern(m.right(4), 8)
		if i%5 > 0 {
			p = m.spoil(p)
		}
		e := askedCheck(p, 10)
		seen[fmt.Sprint(e)]++
		wantCheck(t, fmt.Sprint("made pattern ", i), p, e)
		wantVars(t, fmt.Sprint("made pattern ", i), p, askedVars(p)...)
	}
	wantOften(t, "P5.1", seen, 30, "0", "20", "21", "22", "23", "24", "25", "50")
}

func TestP5_2Made(t *testing.T) {
	m := newMaker(52)
	seen := map[string]int{}
	for i := range 40000 {
		x := m.right(4)
		p, known := m.pattern(x, 6+m.Intn(10)), m.known(x)
		switch m.Intn(12) {
		case 0:
			p = m.spoil(p)
		case 1:
			x = m.spoil(x)
		case 2:
			known = m.wrongBinds(known)
		case 3:
			p, x, known = m.spoil(p), m.spoil(x), m.wrongBinds(known)
		case 4:
			x = m.right(4)
		case 5:
			known = append(known, countedBinds(0, 64-m.Intn(3)-len(known))...)
		}
		want, ok, e := askedMatch(p, x, known)
		seen[fmt.Sprint(e, ok)]++
		if ok && len(want) > len(known) && len(known) > 0 {
			seen["names behind known ones"]++
		}
		wantMatch(t, fmt.Sprint("made pattern ", i), p, x, known, want, ok, e)
	}
	wantOften(t, "P5.2", seen, 20, "0 true", "0 false", "20 false", "21 false", "22 false", "23 false", "24 false", "25 false", "50 false", "51 false", "52 false", "names behind known ones")
}

func TestP5_3Made(t *testing.T) {
	m := newMaker(53)
	seen := map[string]int{}
	for i := range 40000 {
		x := m.right(4)
		p, known := m.pattern(x, 8+m.Intn(16)), m.known(x)
		if m.Intn(2) == 0 {
			if l, ok, _ := match.Match(p, x, known); ok {
				known = l
			}
		}
		switch m.Intn(12) {
		case 0:
			p = m.spoil(p)
		case 1:
			known = m.wrongBinds(known)
		case 2:
			p, known = m.spoil(p), m.wrongBinds(known)
		case 3:
			i := m.Intn(len(known) + 1)
			known = append(slices.Clone(known[:i]), bind("X", nested(m.Intn(24), raw(strings.Repeat("b", m.Intn(4000))))))
		}
		want, e := askedFill(p, known)
		seen[fmt.Sprint(e)]++
		wantFill(t, fmt.Sprint("made pattern ", i), p, known, want, e)
	}
	wantOften(t, "P5.3", seen, 20, "0", "20", "21", "22", "23", "24", "25", "50", "51", "53")
}
