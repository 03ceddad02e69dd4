package lex_test

import (
	"slices"
	"strconv"
	"strings"
	"testing"

	"rookery/api"
)

func TestP15_1Examples(t *testing.T) {
	wantScan(t, "example", "f(X) -> X + 1.", name(0, "f"), sign(1, "("), variable(2, "X"), sign(3, ")"), sign(5, "->"), variable(8, "X"), sign(10, "+"), integer(12, 1), sign(13, "."))
	wantRefusals(t, "example", []refusal{{"1a", 0, api.ErrLexInt}, {"a ?", 2, api.ErrLexByte}, {"4611686018427387904", 0, api.ErrLexInt}})
}

func TestP15_1OrdinaryTexts(t *testing.T) {
	wantScan(t, "a program", "main() ->\n\tP = spawn(2, f, []), P ! hi. % all\r\nf() -> receive X -> say(X) end.",
		name(0, "main"), sign(4, "("), sign(5, ")"), sign(7, "->"),
		variable(11, "P"), sign(13, "="), name(15, "spawn"), sign(20, "("), integer(21, 2), sign(22, ","), name(24, "f"), sign(25, ","), sign(27, "["), sign(28, "]"), sign(29, ")"), sign(30, ","),
		variable(32, "P"), sign(34, "!"), name(36, "hi"), sign(38, "."),
		name(47, "f"), sign(48, "("), sign(49, ")"), sign(51, "->"), word(54, "receive"), variable(62, "X"), sign(64, "->"), name(67, "say"), sign(70, "("), variable(71, "X"), sign(72, ")"), word(74, "end"), sign(77, "."))
	wantScan(t, "a case", `case A rem 2 of 0->"even\n";_Odd->{x}end`,
		word(0, "case"), variable(5, "A"), word(7, "rem"), integer(11, 2), word(13, "of"), integer(16, 0), sign(17, "->"), raw(19, "even\n"), sign(27, ";"), variable(28, "_Odd"), sign(32, "->"), sign(34, "{"), name(35, "x"), sign(36, "}"), word(37, "end"))
}

func TestP15_1NoTokens(t *testing.T) {
	for _, s := range []string{
		"", " ", "\t", "\n", "\r", " \t\n\r", "\r\n\r\n", "%", "%%", "% note", "% note\n", "%\n%\n", " % note\n % another", "%\"", "%?:\x00\xff", "%\r", "% a\r% b", "\n%\n ",
		strings.Repeat(" ", 16384), strings.Repeat("\n", 16384), strings.Repeat("%", 16384), strings.Repeat("%\n", 8192), "%" + strings.Repeat("\xff", 16383), "%" + strings.Repeat("a ", 8191),
	} {
		wantScan(t, "no token", s)
	}
}

// A note goes up to the next byte 10 and to no other one; within quotes there is none.
func TestP15_1Notes(t *testing.T) {
	for c := range 256 {
		if c == '\n' {
			wantScan(t, "a note's end", "a%"+one(c)+"b", name(0, "a"), name(3, "b"))
			continue
		}
		wantScan(t, "a byte of a note", "a%"+one(c)+"b", name(0, "a"))
		wantScan(t, "a byte of a note", "a%"+one(c)+"b\nc", name(0, "a"), name(5, "c"))
		wantScan(t, "the last byte of a note", "a %"+one(c), name(0, "a"))
	}
	wantScan(t, "right behind tokens", "1%2\na%b\nX%Y\n\"q\"%\"\n+%-\nend%end", integer(0, 1), name(4, "a"), variable(8, "X"), raw(12, "q"), sign(18, "+"), word(22, "end"))
	wantScan(t, "right ahead of tokens", "%\n1%\na%\n\"q\"", integer(2, 1), name(5, "a"), raw(8, "q"))
	wantScan(t, "a % in a note", "% a % b\nc % d % e", name(8, "c"))
	wantScan(t, "within quotes", `"a % b" "%" "%%"`, raw(0, "a % b"), raw(8, "%"), raw(12, "%%"))
	wantScan(t, "quotes in a note", "% \"\n\"a\" % \"", raw(4, "a"))
	wantRefused(t, "a line's end within quotes, behind a %", "\"%\n\"", 0, api.ErrLexText)
	wantRefused(t, "what is wrong behind a note", "% ?\n?", 4, api.ErrLexByte)
}

func TestP15_1BetweenTokens(t *testing.T) {
	for c := range 256 {
		b := one(c)
		s := "a" + b + "b"
		switch {
		case strings.Contains(" \t\n\r", b):
			wantScan(t, "a blank", s, name(0, "a"), name(2, "b"))
			wantScan(t, "blanks", b+"a"+b+b+b+"b"+b, name(1, "a"), name(5, "b"))
			wantScan(t, "a blank between ints", "1"+b+"2", integer(0, 1), integer(2, 2))
			wantScan(t, "a blank between an int and a name", "1"+b+"a", integer(0, 1), name(2, "a"))
			wantScan(t, "a blank between signs", "="+b+"=", sign(0, "="), sign(2, "="))
			wantScan(t, "a blank alone", b)
		case strings.Contains(letters+digits, b):
			wantScan(t, "a byte of a name", s, name(0, s))
		case strings.Contains("=<>+-*/!(){}[],;.", b):
			wantScan(t, "a sign", s, name(0, "a"), sign(1, b), name(2, "b"))
		case b == "%":
			wantScan(t, "a note", s, name(0, "a"))
		case b == `"`:
			wantRefused(t, "a quote", s, 1, api.ErrLexText)
		default:
			wantRefused(t, "no token begins with it", s, 1, api.ErrLexByte)
			wantRefused(t, "no token begins with it", b, 0, api.ErrLexByte)
			wantRefused(t, "no token begins with it", " %\n "+b+b, 4, api.ErrLexByte)
			wantRefused(t, "no token begins with it", `12 "x" `+b, 7, api.ErrLexByte)
			wantRefused(t, "no token begins with it", "1"+b, 1, api.ErrLexByte)
			wantRefused(t, "no token begins with it", "-"+b, 1, api.ErrLexByte)
			wantRefused(t, "no token begins with it", `""`+b, 2, api.ErrLexByte)
		}
	}
	for _, s := range []string{"é", "\u00a0", "\u2028", "\ufeff"} {
		wantRefused(t, "more than one byte", "a "+s, 2, api.ErrLexByte)
		wantRefused(t, "more than one byte", s+"a", 0, api.ErrLexByte)
	}
}

// Each kind of token ahead of each other one: without a blank names and digits
// run into one another, and signs whose bytes make a longer one join.
func TestP15_1KindsSideBySide(t *testing.T) {
	all := []api.Token{integer(0, 0), integer(0, 12), name(0, "a"), name(0, "bC_1"), variable(0, "_"), variable(0, "Xy2"), raw(0, ""), raw(0, "q 1"), word(0, "case"), word(0, "of"), word(0, "end"), word(0, "receive"), word(0, "after"), word(0, "rem")}
	for _, s := range allSigns() {
		all = append(all, sign(0, s))
	}
	for _, a := range all {
		for _, b := range all {
			b.At = len(textOf(a)) + 1
			wantScan(t, "with a blank", textOf(a)+" "+textOf(b), a, b)
			b.At += 2
			wantScan(t, "with a note", textOf(a)+"%?\n"+textOf(b), a, b)
			b.At -= 3
			wantSideBySide(t, a, b)
		}
	}
}

func wantSideBySide(t *testing.T, a, b api.Token) {
	t.Helper()
	first, second := textOf(a), textOf(b)
	s := first + second
	switch {
	case a.Kind == api.TkVar && (inName(b) || b.Kind == api.TkInt):
		wantScan(t, "a variable goes on", s, variable(0, s))
	case inName(a) && (inName(b) || b.Kind == api.TkInt):
		wantScan(t, "an atom or a word goes on", s, name(0, s))
	case a.Kind == api.TkInt && inName(b):
		wantRefused(t, "a name right behind an int", s, 0, api.ErrLexInt)
	case a.Kind == api.TkInt && b.Kind == api.TkInt:
		n, _ := strconv.ParseInt(s, 10, 64)
		wantScan(t, "an int goes on", s, integer(0, n))
	case slices.Contains(allSigns(), first+second[:1]):
		want := []api.Token{sign(0, first+second[:1]), sign(2, second[1:])}
		wantScan(t, "signs that join", s, want[:len(second)]...)
	default:
		wantScan(t, "without a blank", s, a, b)
	}
}

func inName(x api.Token) bool {
	return x.Kind == api.TkAtom || x.Kind == api.TkVar || x.Kind == api.TkWord
}

// textOf: an ordinary token's text.
func textOf(x api.Token) string {
	switch x.Kind {
	case api.TkInt:
		return map[int64]string{0: "0", 12: "12"}[x.N]
	case api.TkBytes:
		return `"` + string(x.B) + `"`
	}
	return x.S
}
