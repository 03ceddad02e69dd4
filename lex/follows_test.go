package lex_test

import (
	"slices"
	"strings"
	"testing"

	"rookery/api"
	"rookery/lex"
)

// wantAgain: the tokens of s, spelt with a blank between each two and scanned
// again, are the same but for At.
func wantAgain(t *testing.T, s string, l []api.Token) {
	t.Helper()
	spelt := joined(l)
	again, at, e := lex.Scan(spelt)
	if e != api.OK || at != 0 || !slices.EqualFunc(unplaced(again), unplaced(l), equal) {
		t.Errorf("P15.3: Scan(%q) was spelt %q, and scanned again: %d tokens, %d, %d; want %d", brief(s), brief(spelt), len(again), at, e, len(l))
	}
}

// wantPlaces: At rises, and what stands from a token's At up to the next one's
// is scanned as that token alone.
func wantPlaces(t *testing.T, s string, l []api.Token) {
	t.Helper()
	for i, x := range l {
		end := len(s)
		if i+1 < len(l) {
			end = l[i+1].At
		}
		if x.At < 0 || x.At >= end {
			t.Errorf("P15.3: Scan(%q): At %d of token %d does not rise to %d", brief(s), x.At, i, end)
			return
		}
		if x.Kind != api.TkInt && x.Kind != api.TkBytes && !strings.HasPrefix(s[x.At:], x.S) {
			t.Errorf("P15.3: Scan(%q): at %d stands no %q", brief(s), x.At, x.S)
		}
		x.At = 0
		if one, _, e := lex.Scan(s[l[i].At:end]); e != api.OK || len(one) != 1 || !equal(one[0], x) {
			t.Errorf("P15.3: Scan(%q): what stands at %d is scanned as %v, %d, not as %v", brief(s), l[i].At, few(one), e, x)
		}
	}
}

func TestP15_3MadeTokens(t *testing.T) {
	m := newMaker(153)
	for range 20000 {
		want := m.tokens(15)
		for _, s := range []string{joined(want), m.source(want)} {
			got, at, e := lex.Scan(s)
			if e != api.OK || at != 0 || !slices.EqualFunc(unplaced(got), want, equal) {
				t.Errorf("P15.3: Scan(%q): %v, %d, %d; want the tokens %v", brief(s), few(got), at, e, few(want))
			}
			wantAgain(t, s, got)
			wantPlaces(t, s, got)
		}
	}
}

func TestP15_3MadeTexts(t *testing.T) {
	m := newMaker(154)
	n := 0
	for range 40000 {
		s := m.source(m.tokens(8))
		for range 1 + m.Intn(3) {
			s = m.spoil(s)
		}
		if l, _, e := lex.Scan(s); e == api.OK {
			n++
			wantAgain(t, s, l)
			wantPlaces(t, s, l)
		}
	}
	const mixed = "aZ_09 \n%\"\\xnt=<>-/+.,;(){}[]!*"
	for range 20000 {
		b := make([]byte, m.Intn(25))
		for i := range b {
			b[i] = mixed[m.Intn(len(mixed))]
		}
		if l, _, e := lex.Scan(string(b)); e == api.OK {
			n++
			wantAgain(t, string(b), l)
			wantPlaces(t, string(b), l)
		}
	}
	if n < 5000 {
		t.Errorf("P15.3: only %d texts were scanned", n)
	}
}

// Each sign and each kind behind each other one, three in a row.
func TestP15_3Rows(t *testing.T) {
	all := []string{"0", "7", "a", "X", "_", "end", "rem", `""`, `"\""`}
	all = append(all, allSigns()...)
	for _, a := range all {
		for _, b := range all {
			for _, c := range all {
				for _, s := range []string{a + " " + b + " " + c, a + b + c} {
					l, _, e := lex.Scan(s)
					if e != api.OK && e != api.ErrLexInt {
						t.Errorf("P15.3: Scan(%q): %d", s, e)
					}
					wantAgain(t, s, l)
					wantPlaces(t, s, l)
				}
			}
		}
	}
}

func TestP15_3Great(t *testing.T) {
	for _, x := range []string{"1", "a", `""`, "->", "end", "_"} {
		s := full(x)
		l, _, _ := lex.Scan(s)
		if len(l) != 4000 {
			t.Errorf("P15.3: Scan(%q): %d tokens", brief(s), len(l))
		}
		wantAgain(t, s, l)
	}
	var all string
	for c := range 256 {
		all += `\x` + digits16(byte(c))
	}
	for _, s := range []string{`"` + all + `"`, `"` + strings.Repeat(`\x00`, 4095) + `"`, strings.Repeat("0", 16384), strings.Repeat("=", 4000), strings.Repeat("-", 3999) + ">"} {
		l, _, _ := lex.Scan(s)
		wantAgain(t, s, l)
		wantPlaces(t, s, l)
	}
}

// The blanks between the tokens count as well: a text that they make too long
// is refused as such.
func TestP15_3TooLong(t *testing.T) {
	for _, n := range []int{16365, 16364} {
		s := `"` + strings.Repeat("q", n) + `"` + strings.Repeat("+", 9)
		l, _, e := lex.Scan(s)
		if e != api.OK || len(l) != 10 {
			t.Fatalf("P15.1: Scan(%q): %d tokens, %d", brief(s), len(l), e)
		}
		if spelt := joined(l); len(spelt) > 16384 {
			wantRefused(t, "spelt", spelt, 0, api.ErrLexLong)
		} else {
			wantAgain(t, s, l)
		}
	}
}
