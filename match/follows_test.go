package match_test

import (
	"fmt"
	"testing"

	"rookery/api"
	"rookery/match"
	"rookery/term"
)

func hasAny(p api.Term) bool {
	parts, _ := partsOf(p, 1)
	for _, x := range parts {
		if x.Kind == api.KAny {
			return true
		}
	}
	return false
}

// wantFollows: what comes of it, if x fits p.
func wantFollows(t *testing.T, what string, p, x api.Term, known []api.Bind) bool {
	t.Helper()
	l, ok, e := match.Match(p, x, known)
	if !ok || e != api.OK {
		return false
	}
	if again, ok, e := match.Match(p, x, l); !ok || e != api.OK || !equalBinds(again, l) {
		t.Errorf("P5.4: %s: with the answer known: %q, %v, %d; the answer: %q", what, namesOf(again), ok, e, namesOf(l))
	}
	full, e := match.Fill(p, l)
	if hasAny(p) {
		if e != api.ErrMatchFree {
			t.Errorf("P5.4: %s: Fill with KAny: %d", what, e)
		}
		return true
	}
	if e != api.OK || !term.Same(full, x) || !equal(full, x) {
		t.Errorf("P5.4: %s: Fill with the answer is not the term, %d", what, e)
	}
	if l2, ok, e := match.Match(full, x, nil); !ok || e != api.OK || len(l2) > 0 {
		t.Errorf("P5.4: %s: what was filled does not fit: %v, %d", what, ok, e)
	}
	return true
}

func TestP5_4Made(t *testing.T) {
	m := newMaker(54)
	fit, filled := 0, 0
	for i := range 20000 {
		x := m.right(4)
		p, known := m.pattern(x, 6+m.Intn(10)), m.known(x)
		if wantFollows(t, fmt.Sprint("made pattern ", i), p, x, known) {
			fit++
			if !hasAny(p) && len(match.Vars(p)) > 0 {
				filled++
			}
		}
	}
	if fit < 1000 || filled < 500 {
		t.Errorf("P5.4: only %d made patterns fit, %d of them without KAny and with names", fit, filled)
	}
}

func TestP5_4EveryKind(t *testing.T) {
	for i, x := range samples() {
		what := fmt.Sprint("term ", i)
		for _, c := range []struct{ p, x api.Term }{{x, x}, {v("X"), x}, {anything(), x}} {
			if !wantFollows(t, what, c.p, c.x, nil) || !wantFollows(t, what, c.p, c.x, binds(bind("Z", x))) {
				t.Errorf("P5.4: %s does not fit", what)
			}
		}
	}
	_, parts := counted(0, 64)
	if !wantFollows(t, "64 names", list(parts...), list(numbers(0, 64)...), nil) {
		t.Error("P5.4: 64 names do not fit")
	}
	if !wantFollows(t, "size 4096", ofSize(4000, 96, v("X")), ofSize(4000, 96, integer(1)), nil) {
		t.Error("P5.4: size 4096 does not fit")
	}
}

// A pattern without names and KAny fits just itself.
func TestP5_4JustItself(t *testing.T) {
	m := newMaker(55)
	alike := 0
	for i := range 20000 {
		p, x := m.right(2), m.right(2)
		same := term.Same(p, x)
		if same {
			alike++
		}
		wantMatch(t, fmt.Sprint("P5.4: made terms ", i), p, x, nil, nil, same, api.OK)
	}
	if alike < 300 {
		t.Errorf("P5.4: only %d made terms were alike", alike)
	}
}
