package gram_test

import (
	"slices"
	"strings"
	"testing"

	"rookery/api"
	"rookery/gram"
)

// amongTokens: the S of the atoms and variables, in order.
func amongTokens(l []api.Token) []string {
	var out []string
	for _, x := range l {
		if x.Kind == api.TkAtom || x.Kind == api.TkVar {
			out = append(out, x.S)
		}
	}
	return out
}

// wantFollowing: what P16.3 says of tokens that Parse takes.
func wantFollowing(t *testing.T, l []api.Token) {
	t.Helper()
	x, _, e := gram.Parse(l)
	if e != api.OK {
		t.Errorf("P16.1: Parse of %s: %d", told(l), e)
		return
	}
	if got := gram.Names(x); !slices.Equal(got, amongTokens(l)) {
		t.Errorf("P16.3: Names of Parse of %s: %q", told(l), got)
	}
	for i := range l {
		for what, other := range map[string][]api.Token{"left out": slices.Concat(l[:i], l[i+1:]), "doubled": slices.Concat(l[:i+1], l[i:])} {
			if y, _, e := gram.Parse(other); e == api.OK && equal(x, y) {
				t.Errorf("P16.3: Parse of %s, the token %d %s: the same tree", told(l), i, what)
			}
		}
	}
}

func TestP16_3Programs(t *testing.T) {
	for _, s := range programs() {
		wantFollowing(t, scan(t, s))
	}
	wantFollowing(t, nil)
	for _, w := range ways(t) {
		wantFollowing(t, nested(slices.Repeat([]way{w}, 40/w.steps()), integer(1)))
	}
}

func TestP16_3Made(t *testing.T) {
	m := newMaker(166)
	for i := range 2500 {
		if l := m.writtenProg(m.prog(1 + i%3)); len(l) < 100 {
			wantFollowing(t, l)
		}
	}
}

// Random tokens, taken from few, so that Parse takes some of them.
func TestP16_3RandomTokens(t *testing.T) {
	m := newMaker(167)
	taken := 0
	few := scan(t, "a A 1 ( ) - + = ! , { }")
	for range 60000 {
		var l []api.Token
		for range 1 + m.Intn(7) {
			l = append(l, pick(m, few...))
		}
		l = bodied(l...)
		if _, _, e := gram.Parse(l); e == api.OK {
			taken++
			wantFollowing(t, l)
		}
	}
	for range 30000 {
		l := m.writtenProg(m.prog(1))
		for range 1 + m.Intn(2) {
			l = m.spoil(l, m.oddToken)
		}
		if _, _, e := gram.Parse(l); e == api.OK {
			taken++
			wantFollowing(t, l)
		}
	}
	if taken < 3000 {
		t.Errorf("P16.3: only %d were taken", taken)
	}
}

// As many tokens as Scan answers at most never make more parts than Names goes
// through; of more tokens Names tells those of the first 4000 parts.
func TestP16_3Many(t *testing.T) {
	for _, c := range []struct{ head, one, between, end string }{
		{"", "f(X)->a.", "", ""}, {"f()->", "a", ",", "."}, {"f()->[", "A", ",", "]."}, {"f()->", "a", "*", "."}, {"f()->", "g()", "-", "."}, {"f(", "X", ",", ")->a."}, {"f()->receive ", "a->b", ";", " end."}, {"f()->case a of ", "X->Y", ";", " end."}, {"f()->", "-a", ",", "."}, {"f()->", "receive after a->B end", ",", "."},
	} {
		size := len(scan(t, c.head+c.one+c.end))
		step := len(scan(t, c.one+c.between))
		n := 1 + (4000-size)/step
		l := scan(t, c.head+strings.Repeat(c.one+c.between, n-1)+c.one+c.end)
		if len(l) > 4000 || len(l) <= 4000-step {
			t.Fatalf("P16.3: %d tokens", len(l))
		}
		x, _, e := gram.Parse(l)
		if got := gram.Names(x); e != api.OK || !slices.Equal(got, amongTokens(l)) {
			t.Errorf("P16.3: %s%s%s..: %d names of %d tokens, %d", c.head, c.one, c.between, len(got), len(l), e)
		}
	}
	long := bodied(append(slices.Repeat([]api.Token{name("a"), sign(",")}, 9000), integer(1))...)
	long[4] = name("first")
	x, _, e := gram.Parse(long)
	if got := gram.Names(x); e != api.OK || len(got) != 3998 || got[0] != "f" || got[1] != "first" {
		t.Errorf("P16.2: of very many tokens %d names, %d", len(got), e)
	}
}
