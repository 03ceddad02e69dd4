package atom_test

import (
	"math/rand"
	"strings"
	"testing"

	"rookery/api"
	"rookery/atom"
	"rookery/term"
)

func wantRight(t *testing.T, s string, want bool) {
	t.Helper()
	if atom.Right(s) != want {
		t.Errorf("P3.1: Right(%q): %v; want %v", s, !want, want)
	}
}

func TestP3_1Names(t *testing.T) {
	for _, s := range names() {
		wantRight(t, s, true)
	}
	for _, s := range noNames() {
		wantRight(t, s, false)
	}
}

// Each byte, alone, behind another one, and as the last of 32.
func TestP3_1EachByte(t *testing.T) {
	for c := range 256 {
		b := string([]byte{byte(c)})
		for _, s := range []string{b, b + "a", b + strings.Repeat("a", 31), "a" + b, "a" + b + "a", strings.Repeat("a", 31) + b} {
			wantRight(t, s, isName(s))
		}
	}
}

func TestP3_1Lengths(t *testing.T) {
	for n := range 100 {
		wantRight(t, strings.Repeat("a", n), 1 <= n && n <= 32)
		wantRight(t, strings.Repeat("a", n)+"é", false)
	}
	wantRight(t, strings.Repeat("a", 1<<20), false)
}

// A name here is a name in a term, too.
func TestP3_1AsInTerms(t *testing.T) {
	r := rand.New(rand.NewSource(31))
	all := append(names(), noNames()...)
	for range 3000 {
		b := make([]byte, r.Intn(35))
		for i := range b {
			b[i] = byte(r.Intn(256))
			if r.Intn(20) > 0 {
				b[i] = "az_AZ09mM5"[r.Intn(10)]
			}
		}
		all = append(all, string(b))
	}
	for _, s := range all {
		wantRight(t, s, isName(s))
		if may := term.Check(term.Atom(s)) == api.OK; may != atom.Right(s) {
			t.Errorf("P3.1: Right(%q): %v; as a term: %v", s, !may, may)
		}
	}
}

func TestP3_1New(t *testing.T) {
	x := atom.New()
	if x == nil {
		t.Fatal("P3.1: New is nil")
	}
	wantTable(t, x, nil)
	for _, s := range append(names(), noNames()...) {
		wantFind(t, x, s, 0, false)
	}
	wantTable(t, x.Copy(), nil)
	y := atom.New()
	x.Put("a")
	wantTable(t, y, nil)
	wantTable(t, atom.New(), nil)
}
