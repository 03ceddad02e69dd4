package lex_test

import (
	"math/rand"
	"slices"
	"strings"
	"testing"

	"rookery/api"
	"rookery/lex"
)

const (
	smalls   = "abcdefghijklmnopqrstuvwxyz"
	capitals = "ABCDEFGHIJKLMNOPQRSTUVWXYZ"
	digits   = "0123456789"
	letters  = smalls + capitals + "_"
	maxInt   = "4611686018427387903"
	overInt  = "4611686018427387904"
)

func words() []string { return []string{"case", "of", "end", "receive", "after", "rem"} }

func allSigns() []string {
	return strings.Fields("-> == /= =< >= = < > + - * / ! ( ) { } [ ] , ; .")
}

func integer(at int, n int64) api.Token { return api.Token{Kind: api.TkInt, N: n, At: at} }

func name(at int, s string) api.Token { return api.Token{Kind: api.TkAtom, S: s, At: at} }

func variable(at int, s string) api.Token { return api.Token{Kind: api.TkVar, S: s, At: at} }

func raw(at int, s string) api.Token { return api.Token{Kind: api.TkBytes, B: []byte(s), At: at} }

func sign(at int, s string) api.Token { return api.Token{Kind: api.TkSign, S: s, At: at} }

func word(at int, s string) api.Token { return api.Token{Kind: api.TkWord, S: s, At: at} }

// one: a byte as a text.
func one(c int) string { return string([]byte{byte(c)}) }

// equal tells tokens apart field by field; it takes an empty list for a nil one (R3).
func equal(a, b api.Token) bool {
	return a.Kind == b.Kind && a.S == b.S && a.N == b.N && a.At == b.At && slices.Equal(a.B, b.B)
}

// brief: as much of a text as a message needs.
func brief(s string) string {
	if len(s) > 90 {
		return s[:60] + " .. " + s[len(s)-26:]
	}
	return s
}

func few(l []api.Token) []api.Token { return l[:min(len(l), 12)] }

// wantScan: beside OK the place is 0.
func wantScan(t *testing.T, what, s string, want ...api.Token) {
	t.Helper()
	if got, at, e := lex.Scan(s); e != api.OK || at != 0 || !slices.EqualFunc(got, want, equal) {
		t.Errorf("P15.1: %s: Scan(%q): %d tokens %v, %d, %d; want %d tokens %v, 0, 0", what, brief(s), len(got), few(got), at, e, len(want), few(want))
	}
}

// wantRefused: beside the error and its place there are no tokens (R2).
func wantRefused(t *testing.T, what, s string, wantAt int, wantErr api.Errno) {
	t.Helper()
	if got, at, e := lex.Scan(s); e != wantErr || at != wantAt || len(got) != 0 {
		t.Errorf("P15.1: %s: Scan(%q): %d tokens, %d, %d; want none, %d, %d", what, brief(s), len(got), at, e, wantAt, wantErr)
	}
}

type refusal struct {
	s  string
	at int
	e  api.Errno
}

func wantRefusals(t *testing.T, what string, l []refusal) {
	t.Helper()
	for _, c := range l {
		wantRefused(t, what, c.s, c.at, c.e)
	}
}

func wantSpell(t *testing.T, what string, x api.Token, want string) {
	t.Helper()
	if got := lex.Spell(x); got != want {
		t.Errorf("P15.2: %s: Spell of kind %d, S %q, N %d, B %q: %q; want %q", what, x.Kind, brief(x.S), x.N, brief(string(x.B)), brief(got), brief(want))
	}
}

// unplaced: the tokens with At 0.
func unplaced(l []api.Token) []api.Token {
	out := slices.Clone(l)
	for i := range out {
		out[i].At = 0
	}
	return out
}

// joined: the tokens' texts with a blank between each two.
func joined(l []api.Token) string {
	var out []string
	for _, x := range l {
		out = append(out, lex.Spell(x))
	}
	return strings.Join(out, " ")
}

// maker makes tokens and texts out of a row of numbers that is the same in each run.
type maker struct{ *rand.Rand }

func newMaker(seed int64) maker { return maker{rand.New(rand.NewSource(seed))} }

func pick[T any](m maker, l ...T) T { return l[m.Intn(len(l))] }

func (m maker) name(first string) string {
	s := one(int(first[m.Intn(len(first))]))
	for range pick(m, 0, 1, m.Intn(6), m.Intn(32), 31) {
		s += one(int((letters + digits)[m.Intn(len(letters+digits))]))
	}
	return s
}

func (m maker) bytes() []byte {
	b := make([]byte, pick(m, 0, 1, 2, m.Intn(9)))
	for i := range b {
		b[i] = pick(m, byte(m.Intn(256)), byte(m.Intn(256)), '"', '\\', '\n', '\t', 'x', '%', ' ')
	}
	return b
}

// token: one that a text may have, with At 0.
func (m maker) token() api.Token {
	switch 1 + m.Intn(6) {
	case api.TkInt:
		return integer(0, pick(m, 0, 1, 9, 10, api.MaxInt, api.MaxInt-1, int64(m.Intn(1000)), m.Int63()>>1))
	case api.TkAtom:
		if s := m.name(smalls); !slices.Contains(words(), s) {
			return name(0, s)
		}
		return name(0, "ends")
	case api.TkVar:
		return variable(0, m.name(capitals+"_"))
	case api.TkBytes:
		return api.Token{Kind: api.TkBytes, B: m.bytes()}
	case api.TkSign:
		return sign(0, pick(m, allSigns()...))
	}
	return word(0, pick(m, words()...))
}

func (m maker) tokens(n int) []api.Token {
	var l []api.Token
	for range m.Intn(n + 1) {
		l = append(l, m.token())
	}
	return l
}

// written: a text of the token, often not the one that Spell tells.
func (m maker) written(x api.Token) string {
	switch x.Kind {
	case api.TkInt:
		return strings.Repeat("0", pick(m, 0, 0, 1, 30)) + lex.Spell(x)
	case api.TkBytes:
		s := `"`
		for _, c := range x.B {
			s += m.writtenByte(c)
		}
		return s + `"`
	}
	return lex.Spell(x)
}

func (m maker) writtenByte(c byte) string {
	ways := []string{`\x` + digits16(c)}
	if i := strings.IndexByte("\n\t\\\"", c); i >= 0 {
		ways = append(ways, `\`+one(int(`nt\"`[i])))
	} else if c >= 32 && c <= 126 {
		ways = append(ways, one(int(c)))
	}
	return pick(m, ways...)
}

func digits16(c byte) string {
	const all = "0123456789abcdef"
	return all[c/16:c/16+1] + all[c%16:c%16+1]
}

// gap: blanks and notes, at least one byte.
func (m maker) gap() string {
	s := ""
	for range 1 + m.Intn(3) {
		s += pick(m, " ", "\n", "\t", "\r", "% a note\n", "%\n", "%% \"x\xff\x00?\r:\n", "%1a\n")
	}
	return s
}

// source: a text that holds these tokens, with gaps between and mostly around them.
func (m maker) source(l []api.Token) string {
	s := pick(m, "", m.gap())
	for i, x := range l {
		if i > 0 {
			s += m.gap()
		}
		s += m.written(x)
	}
	return s + pick(m, "", m.gap(), "% the end")
}

// spoil: s with a piece put in, taken out or put in a byte's place.
func (m maker) spoil(s string) string {
	piece := pick(m, one(m.Intn(256)), one(m.Intn(256)), `"`, `\`, "%", "\n", "?", ":", "a", "Z", "_", "0", "=", ">", "->", "x", `\x4`, `\q`, overInt, maxInt, strings.Repeat("n", 30), strings.Repeat("V", 33), "rem", "")
	i := m.Intn(len(s) + 1)
	return s[:i] + piece + s[min(len(s), i+m.Intn(3)):]
}
