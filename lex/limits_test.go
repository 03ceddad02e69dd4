package lex_test

import (
	"slices"
	"strings"
	"testing"

	"rookery/api"
)

func TestP15_1Long(t *testing.T) {
	blanks := strings.Repeat(" ", 16384)
	wantScan(t, "16384 bytes", blanks)
	wantScan(t, "16384 bytes", blanks[:16383]+"a", name(16383, "a"))
	wantScan(t, "16384 bytes", "a"+blanks[:16383], name(0, "a"))
	wantScan(t, "16383 bytes", blanks[:16382]+"1", integer(16382, 1))
	wantRefusals(t, "16384 bytes, of which some are wrong", []refusal{
		{blanks[:16383] + "?", 16383, api.ErrLexByte}, {"?" + blanks[:16383], 0, api.ErrLexByte}, {blanks[:16383] + `"`, 16383, api.ErrLexText}, {blanks[:16382] + "1a", 16382, api.ErrLexInt}, {strings.Repeat("a", 16384), 0, api.ErrLexName}, {strings.Repeat("+", 16384), 4000, api.ErrLexMany},
	})
	wantRefusals(t, "16385 bytes", []refusal{
		{blanks + " ", 0, api.ErrLexLong}, {blanks + "a", 0, api.ErrLexLong}, {blanks + "\n", 0, api.ErrLexLong}, {"%" + blanks, 0, api.ErrLexLong}, {"a" + blanks, 0, api.ErrLexLong}, {"?" + blanks, 0, api.ErrLexLong}, {blanks + "?", 0, api.ErrLexLong}, {`"` + blanks, 0, api.ErrLexLong}, {"1a" + blanks[1:], 0, api.ErrLexLong}, {overInt + blanks, 0, api.ErrLexLong},
	})
	for _, c := range []string{"a", "A", "1", "0", "+", `"`, `\`, "%", ":", "\x00", "\xff"} {
		for _, n := range []int{16385, 20000, 1 << 20} {
			wantRefused(t, "too long", strings.Repeat(c, n), 0, api.ErrLexLong)
		}
	}
}

// full: 4000 times a token with a blank behind it, but for the last one.
func full(x string) string { return strings.Repeat(x+" ", 3999) + x }

func TestP15_1Many(t *testing.T) {
	for _, x := range []api.Token{integer(0, 1), name(0, "a"), name(0, "abc"), variable(0, "_"), variable(0, "X1"), raw(0, ""), raw(0, "q"), sign(0, "+"), sign(0, "->"), word(0, "of"), word(0, "end")} {
		text := x.S
		switch x.Kind {
		case api.TkInt:
			text = "1"
		case api.TkBytes:
			text = `"` + string(x.B) + `"`
		}
		want := slices.Repeat([]api.Token{x}, 4000)
		for i := range want {
			want[i].At = i * (len(text) + 1)
		}
		s := full(text)
		wantScan(t, "3999 tokens", s[:len(s)-len(text)], want[:3999]...)
		for _, behind := range []string{"", " ", "\n", "\t\r\n ", "%", "% a note", "% a note\n", " % a ? 1a \"\n \n", "%" + overInt} {
			wantScan(t, "4000 tokens", s+behind, want...)
		}
		for _, behind := range []string{"b", "1", "X", `"q"`, "+", "->", "end", "?", "\x00", "\xff", ":", overInt, "1a", strings.Repeat("n", 33), strings.Repeat("V", 33), `"`, `"\q"`, "\"\n\"", "b ? c"} {
			for _, gap := range []string{" ", "\n", " \t\r\n", "%\n", " % a note\n "} {
				wantRefused(t, "4000 tokens and more", s+gap+behind, len(s)+len(gap), api.ErrLexMany)
			}
		}
	}
}

func TestP15_1ManyWithoutBlanks(t *testing.T) {
	s := strings.Repeat("+", 4000)
	for _, behind := range []string{"", " ", "%", "%\n"} {
		l, _, _ := asked(s)
		wantScan(t, "4000 signs", s+behind, l...)
	}
	for _, behind := range []string{"+", "a", "1", `"`, "?", "\x7f", "1a", "==", "++++", "+?"} {
		wantRefused(t, "4000 signs and more", s+behind, 4000, api.ErrLexMany)
	}
	l, _, _ := asked(s + strings.Repeat(" ", 12384))
	wantScan(t, "4000 signs in 16384 bytes", s+strings.Repeat(" ", 12384), l...)
	wantRefused(t, "4000 signs in 16385 bytes", s+strings.Repeat(" ", 12385), 0, api.ErrLexLong)
	wantRefused(t, "4001 signs in 16384 bytes", s+strings.Repeat(" ", 12383)+"+", 16383, api.ErrLexMany)
	wantRefused(t, "4001 signs in 16385 bytes", s+strings.Repeat(" ", 12384)+"+", 0, api.ErrLexLong)
	wantScan(t, "4000 signs of two bytes", strings.Repeat("->", 4000), func() []api.Token {
		l, _, _ := asked(strings.Repeat("->", 4000))
		return l
	}()...)
	wantRefused(t, "the beginning of a sign of two bytes is the 4001st", strings.Repeat("->", 4000)+"-", 8000, api.ErrLexMany)
}

// What is wrong ahead of the token that is too many is told; and at the 4000th
// token the others are told yet.
func TestP15_1ManyAndOthers(t *testing.T) {
	s := strings.Repeat("a ", 3999)
	wantRefusals(t, "the 4000th token", []refusal{
		{s + "?", 7998, api.ErrLexByte}, {s + "1a", 7998, api.ErrLexInt}, {s + overInt, 7998, api.ErrLexInt}, {s + strings.Repeat("n", 33), 7998, api.ErrLexName}, {s + `"`, 7998, api.ErrLexText}, {s + `"\q" b`, 7998, api.ErrLexText},
	})
	for _, c := range []refusal{{"?", 0, api.ErrLexByte}, {"1a", 0, api.ErrLexInt}, {strings.Repeat("n", 33), 0, api.ErrLexName}, {`"\q"`, 0, api.ErrLexText}} {
		wantRefused(t, "ahead of too many", c.s+" "+s+"a a a", 0, c.e)
		wantRefused(t, "amid too many", "a "+c.s+" "+s+"a a a", 2, c.e)
	}
}

// Of two that are wrong the one in front is told, whichever they are.
func TestP15_1TheFirst(t *testing.T) {
	wrong := []refusal{{"?", 0, api.ErrLexByte}, {"\xff", 0, api.ErrLexByte}, {overInt, 0, api.ErrLexInt}, {"1_", 0, api.ErrLexInt}, {"9" + overInt + "Z", 0, api.ErrLexInt}, {strings.Repeat("n", 33), 0, api.ErrLexName}, {strings.Repeat("_", 40), 0, api.ErrLexName}, {`"\q"`, 0, api.ErrLexText}, {"\"\x00\"", 0, api.ErrLexText}, {`"`, 0, api.ErrLexText}}
	for _, a := range wrong {
		for _, b := range wrong {
			wantRefused(t, "two that are wrong", a.s+"\n"+b.s, 0, a.e)
			wantRefused(t, "two that are wrong", "x (7)\n"+a.s+"\n"+b.s, 6, a.e)
			wantRefused(t, "two that are wrong", "% "+b.s[:1]+"\n"+a.s+"\n"+b.s, 4, a.e)
		}
		wantRefused(t, "right behind a sign", "[1,"+a.s, 3, a.e)
		wantRefused(t, "right behind a text", `"x"`+a.s, 3, a.e)
	}
}
