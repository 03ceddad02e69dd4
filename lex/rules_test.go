package lex_test

import (
	"math"
	"slices"
	"strings"
	"testing"
	"unsafe"

	"rookery/api"
	"rookery/lex"
)

func within(inner, outer string) bool {
	a, b := uintptr(unsafe.Pointer(unsafe.StringData(inner))), uintptr(unsafe.Pointer(unsafe.StringData(outer)))
	return len(inner) > 0 && b <= a && a < b+uintptr(len(outer))
}

// R4: neither names, signs nor words of an answer are pieces of the text.
func TestR4TextIsNotKept(t *testing.T) {
	for _, s := range []string{"some_name Some_var rem -> . a X", "name", "Variable", "receive", "->", "+", strings.Repeat("abc ", 1000)} {
		s = strings.Clone(s)
		l, _, e := lex.Scan(s)
		if e != api.OK || len(l) == 0 {
			t.Fatalf("R4: Scan(%q): %d", brief(s), e)
		}
		for _, x := range l {
			if within(x.S, s) {
				t.Errorf("R4: %q in the answer is a piece of the text that was handed in", x.S)
			}
		}
	}
	for _, kind := range []int{api.TkAtom, api.TkVar, api.TkSign, api.TkWord} {
		x := api.Token{Kind: kind, S: strings.Clone("abc")}
		if s := lex.Spell(x); s != "abc" || within(s, x.S) {
			t.Errorf("R4: Spell of kind %d answers the S that was handed in", kind)
		}
	}
	x := raw(0, "abc")
	s := lex.Spell(x)
	copy(x.B, "xyz")
	if s != `"abc"` {
		t.Errorf("R4: Spell's answer shares memory with the B that was handed in: %q", s)
	}
}

func TestR4NothingIsChanged(t *testing.T) {
	m := newMaker(4)
	for range 2000 {
		b := m.bytes()
		room := append(append(make([]byte, 0, len(b)+8), b...), "spare"...)
		before := slices.Clone(room[:cap(room)])
		wantSpell(t, "R4: spare room", api.Token{Kind: api.TkBytes, B: room[:len(b)]}, lex.Spell(api.Token{Kind: api.TkBytes, B: slices.Clip(b)}))
		if !slices.Equal(room[:cap(room)], before) {
			t.Errorf("R4: Spell changed what it was handed: %q", before)
		}
	}
}

// scramble writes into all memory that the tokens lead to, its spare room included.
func scramble(l []api.Token) {
	l = l[:cap(l)]
	for i := range l {
		for j := range l[i].B[:cap(l[i].B)] {
			l[i].B[:cap(l[i].B)][j] ^= 0x55
		}
		l[i] = api.Token{Kind: 99, S: "spoilt", N: -7, At: -1}
	}
}

// Two lists of one answer share no memory, nor two answers, nor their spare room.
func TestR4AnswersApart(t *testing.T) {
	s := `"abc" "abc" "" "x" a "\x00\n" 1 "abcdefghijklmnopqrstuvwxyz" ""`
	first, _, _ := lex.Scan(s)
	second, _, _ := lex.Scan(s)
	want, _, _ := asked(s)
	for i := range first {
		b := first[i].B[:cap(first[i].B)]
		for j := range b {
			b[j] = 0x55
		}
		for j := i + 1; j < len(first); j++ {
			if !equal(first[j], want[j]) {
				t.Errorf("R4: the tokens %d and %d of one answer share memory", i, j)
			}
		}
	}
	scramble(first)
	if !slices.EqualFunc(second, want, equal) {
		t.Error("R4: two answers share memory")
	}
	wantScan(t, "R4: an answer shares memory with what is kept", s, want...)
	for _, sign := range allSigns() {
		l, _, _ := lex.Scan(sign)
		scramble(l)
		wantScan(t, "R4: an answer shares memory with what is kept", sign, api.Token{Kind: api.TkSign, S: sign})
	}
}

// R2: a field that a kind does not name is zero; no token of an answer has
// spare fields set.
func TestR2OtherFieldsAreZero(t *testing.T) {
	m := newMaker(2)
	for range 3000 {
		s := m.source(m.tokens(10))
		l, _, _ := lex.Scan(s)
		for _, x := range l {
			bare := api.Token{Kind: x.Kind, At: x.At}
			switch x.Kind {
			case api.TkInt:
				bare.N = x.N
			case api.TkBytes:
				bare.B = x.B
			default:
				bare.S = x.S
			}
			if !equal(x, bare) || x.Kind < 1 || x.Kind > 6 || x.N < 0 || x.N > api.MaxInt || len(x.S) > 32 {
				t.Errorf("R2: Scan(%q): the token %v", brief(s), x)
			}
		}
	}
}

// R6: the same arguments, the same answers, whatever was asked in between.
func TestR6TheSameAgain(t *testing.T) {
	m := newMaker(6)
	for range 1000 {
		s := m.source(m.tokens(8))
		for range m.Intn(3) {
			s = m.spoil(s)
		}
		l, at, e := lex.Scan(s)
		x := m.token()
		spelt, isWord := lex.Spell(x), lex.Word(x.S)
		for range 3 {
			lex.Scan(m.spoil(s))
			lex.Spell(m.token())
			if l2, at2, e2 := lex.Scan(strings.Clone(s)); !slices.EqualFunc(l, l2, equal) || at != at2 || e != e2 {
				t.Errorf("R6: Scan(%q): %d, %d, then %d, %d", brief(s), at, e, at2, e2)
			}
			if again := lex.Spell(x); again != spelt || lex.Word(x.S) != isWord {
				t.Errorf("R6: Spell: %q, then %q", brief(spelt), brief(again))
			}
		}
	}
}

// P1: whatever the text or the token is, each call ends.
func TestP1Anything(t *testing.T) {
	for c := range 256 {
		for _, n := range []int{1, 2, 3, 31, 32, 33, 300, 4000, 4001, 16383, 16384, 16385, 1 << 20} {
			wantAsked(t, strings.Repeat(one(c), n))
		}
	}
	m := newMaker(1)
	for range 5000 {
		b := make([]byte, m.Intn(60))
		m.Read(b)
		wantAsked(t, string(b))
		wantAsked(t, `x "`+string(b))
		wantAsked(t, "%"+string(b))
		x := api.Token{Kind: m.Intn(9) - 1, S: string(b), N: int64(m.Uint64()), B: b, At: int(m.Uint64())}
		lex.Spell(x)
		if lex.Word(string(b)) != slices.Contains(words(), string(b)) {
			t.Errorf("P15.1: Word(%q)", b)
		}
	}
	lex.Spell(api.Token{})
	lex.Spell(api.Token{Kind: math.MinInt, At: math.MinInt, N: math.MinInt64})
}
