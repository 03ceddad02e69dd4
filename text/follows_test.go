package text_test

import (
	"strings"
	"testing"

	"rookery/api"
	"rookery/term"
	"rookery/text"
)

// wantBack: Parse of Print is the term.
func wantBack(t *testing.T, x api.Term) string {
	t.Helper()
	s, e := text.Print(x)
	if e != api.OK {
		t.Errorf("P4.3: Print of a term of kind %d: %d", x.Kind, e)
	}
	back, at, e := text.Parse(s)
	if e != api.OK || at != 0 || !equal(back, x) || !term.Same(back, x) {
		t.Errorf("P4.3: Parse(%q): a term of kind %d, %d, %d; it was printed of one of kind %d", brief(s), back.Kind, at, e, x.Kind)
	}
	return s
}

func TestP4_3TermAndBack(t *testing.T) {
	m := newMaker(43)
	for range 30000 {
		wantBack(t, m.right(6))
	}
	longest, _ := ofLength(65536)
	var all []byte
	for c := range 256 {
		all = append(all, byte(c))
	}
	for _, x := range []api.Term{longest, ofParts(4096), nested(23, raw("x")), raw(string(all)), raw(strings.Repeat("\\", 4095)), tuple(many(256, raw(string(all[:14])))...)} {
		wantBack(t, x)
	}
	for _, c := range samples() {
		wantBack(t, c.x)
	}
}

func TestP4_3TextAndBack(t *testing.T) {
	m := newMaker(44)
	n := 0
	for range 60000 {
		s, _ := text.Print(m.right(4))
		s = m.spoil(s)
		x, _, e := text.Parse(s)
		if e != api.OK {
			continue
		}
		n++
		if term.Check(x) != api.OK {
			t.Errorf("P4.3: what Parse(%q) tells is not right", brief(s))
		}
		if back, e := text.Print(x); back != s || e != api.OK {
			t.Errorf("P4.3: Print of Parse(%q): %q, %d", brief(s), brief(back), e)
		}
	}
	if n < 3000 {
		t.Errorf("P4.3: only %d texts were terms'", n)
	}
}

func TestP4_3OneTextOneTerm(t *testing.T) {
	m := newMaker(45)
	by := map[string]api.Term{}
	for range 20000 {
		x := m.right(2)
		s := wantBack(t, x)
		if y, ok := by[s]; ok && !term.Same(x, y) {
			t.Errorf("P4.3: two terms that differ have the text %q", brief(s))
		}
		by[s] = x
	}
	for _, c := range samples() {
		for _, d := range samples() {
			a, _ := text.Print(c.x)
			b, _ := text.Print(d.x)
			if (a == b) != term.Same(c.x, d.x) {
				t.Errorf("P4.3: the texts %q and %q", a, b)
			}
		}
	}
}

// A field that is nil and one that is empty have one text (R3).
func TestR3Empty(t *testing.T) {
	for kind, want := range map[int]string{api.KTuple: "{}", api.KList: "[]", api.KBytes: `""`} {
		wantPrint(t, "nil", api.Term{Kind: kind}, want, api.OK)
		wantPrint(t, "empty", api.Term{Kind: kind, B: []byte{}, L: []api.Term{}}, want, api.OK)
		wantParse(t, "empty", want, api.Term{Kind: kind})
	}
}
