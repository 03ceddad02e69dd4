package lex_test

import (
	"math/big"
	"regexp"
	"slices"
	"strconv"
	"testing"

	"rookery/api"
)

// What Scan must answer, worked out apart from it, by expressions for blanks,
// notes and each kind of token.

var (
	aGap   = regexp.MustCompile(`^([ \t\n\r]|%[^\n]*(\n|$))*`)
	anInt  = regexp.MustCompile(`^[0-9]+`)
	aName  = regexp.MustCompile(`^[a-zA-Z_][a-zA-Z0-9_]*`)
	aText  = regexp.MustCompile(`^"([ !#-\[\]-~]|\\[nt\\"]|\\x[0-9a-f][0-9a-f])*"`)
	aSign  = regexp.MustCompile(`^(->|==|/=|=<|>=|[=<>+*/!(){}\[\],;.-])`)
	behind = regexp.MustCompile(`^[a-zA-Z_]`)
	aWord  = regexp.MustCompile(`^(case|of|end|receive|after|rem)$`)
	aSmall = regexp.MustCompile(`^[a-z]`)
)

func asked(s string) ([]api.Token, int, api.Errno) {
	if len(s) > 16384 {
		return nil, 0, api.ErrLexLong
	}
	var l []api.Token
	at := 0
	for {
		at += len(aGap.FindString(s[at:]))
		if at == len(s) {
			return l, 0, api.OK
		}
		if len(l) == 4000 {
			return nil, at, api.ErrLexMany
		}
		t, n, e := askedToken(s[at:])
		if e != api.OK {
			return nil, at, e
		}
		t.At = at
		l = append(l, t)
		at += n
	}
}

// askedToken: the token with which s begins, and how many bytes it has.
func askedToken(s string) (api.Token, int, api.Errno) {
	if n := anInt.FindString(s); n != "" {
		v, _ := new(big.Int).SetString(n, 10)
		most, _ := new(big.Int).SetString(maxInt, 10)
		if v.Cmp(most) > 0 || behind.MatchString(s[len(n):]) {
			return api.Token{}, 0, api.ErrLexInt
		}
		return integer(0, v.Int64()), len(n), api.OK
	}
	if n := aName.FindString(s); n != "" {
		switch {
		case len(n) > 32:
			return api.Token{}, 0, api.ErrLexName
		case aWord.MatchString(n):
			return word(0, n), len(n), api.OK
		case aSmall.MatchString(n):
			return name(0, n), len(n), api.OK
		}
		return variable(0, n), len(n), api.OK
	}
	if s[0] == '"' {
		n := aText.FindString(s)
		b, err := strconv.Unquote(n)
		if n == "" || err != nil {
			return api.Token{}, 0, api.ErrLexText
		}
		return raw(0, b), len(n), api.OK
	}
	if n := aSign.FindString(s); n != "" {
		return sign(0, n), len(n), api.OK
	}
	return api.Token{}, 0, api.ErrLexByte
}

func wantAsked(t *testing.T, s string) api.Errno {
	t.Helper()
	l, at, e := asked(s)
	if e == api.OK {
		wantScan(t, "worked out apart", s, l...)
	} else {
		wantRefused(t, "worked out apart", s, at, e)
	}
	return e
}

// Each byte at each place of a text, in place of what stands there, and ahead of it.
func TestP15_1EveryByteEverywhere(t *testing.T) {
	for _, s := range []string{
		`f(X) -> "a\x0f\n\"" ! _y rem 12. % end`, "1-2--3 % \"\n=<>===/=", `"""\\" "%"%"` + "\n00", "case A of end_ Of rem1 2 rem", smalls + "ABCDE_", "X" + digits + smalls[:20], maxInt + " 0" + maxInt, "\t\r\n a\r%\r\n\tb",
	} {
		for i := range len(s) + 1 {
			for b := range 256 {
				wantAsked(t, s[:i]+one(b)+s[min(i+1, len(s)):])
				wantAsked(t, s[:i]+one(b)+s[i:])
			}
			wantAsked(t, s[:i])
			wantAsked(t, s[i:])
		}
	}
}

// Every text of few bytes out of those that texts are made of.
func TestP15_1AllShort(t *testing.T) {
	for _, bytes := range []string{`"\xn4a `, "a1Z_ \n%", "=<>-/+", "0a.\"%\n", "of e=-:", "\x00\x7f\x80% \n"} {
		all := []string{""}
		for range 6 {
			var longer []string
			for _, s := range all {
				for _, c := range []byte(bytes) {
					longer = append(longer, s+one(int(c)))
				}
			}
			for _, s := range longer {
				wantAsked(t, s)
			}
			all = longer
		}
	}
}

func TestP15_1Made(t *testing.T) {
	m := newMaker(151)
	seen := map[api.Errno]int{}
	for range 20000 {
		s := m.source(m.tokens(12))
		for range m.Intn(4) {
			s = m.spoil(s)
		}
		seen[wantAsked(t, s)]++
	}
	for range 300 {
		l := slices.Repeat([]api.Token{m.token()}, 3995+m.Intn(10))
		s := joined(l)
		seen[wantAsked(t, s)]++
		seen[wantAsked(t, m.spoil(s))]++
		seen[wantAsked(t, s+m.source(m.tokens(4)))]++
	}
	for _, e := range []api.Errno{api.OK, api.ErrLexLong, api.ErrLexByte, api.ErrLexInt, api.ErrLexName, api.ErrLexText, api.ErrLexMany} {
		if seen[e] < 50 {
			t.Errorf("P15.1: only %d texts were made that ask for %d", seen[e], e)
		}
	}
}
