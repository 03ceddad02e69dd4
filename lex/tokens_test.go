package lex_test

import (
	"strings"
	"testing"

	"rookery/api"
)

func TestP15_1Ints(t *testing.T) {
	zeros := strings.Repeat("0", 16384)
	for _, c := range []struct {
		s string
		n int64
	}{
		{"0", 0}, {"1", 1}, {"9", 9}, {"10", 10}, {"1234567890", 1234567890}, {"4294967296", 1 << 32}, {"00", 0}, {"007", 7}, {"0010", 10}, {"09", 9},
		{maxInt, api.MaxInt}, {"4611686018427387902", api.MaxInt - 1}, {"0" + maxInt, api.MaxInt}, {zeros[:100] + maxInt, api.MaxInt}, {zeros, 0}, {zeros[:16383] + "5", 5}, {zeros[:16384-19] + maxInt, api.MaxInt},
	} {
		wantScan(t, "an int", c.s, integer(0, c.n))
		if len(c.s) < 16000 {
			wantScan(t, "an int", "a "+c.s+".", name(0, "a"), integer(2, c.n), sign(2+len(c.s), "."))
		}
	}
	for _, s := range []string{
		overInt, "4611686018427387910", "4611686018427388000", "5000000000000000000", "9223372036854775806", "9223372036854775807", "9223372036854775808", "9223372036854775809", "18446744073709551615", "18446744073709551616", "18446744073709551617",
		"46116860184273879030", "36893488147419103233", "99999999999999999999", "100000000000000000000", "340282366920938463463374607431768211457", "0" + overInt, zeros[:500] + overInt, strings.Repeat("9", 16384), "1" + zeros[1:], zeros[:16384-19] + overInt,
	} {
		wantRefused(t, "an int above MaxInt", s, 0, api.ErrLexInt)
		if len(s) < 16000 {
			wantRefused(t, "an int above MaxInt", "a "+s+" ?", 2, api.ErrLexInt)
			wantRefused(t, "an int above MaxInt with a letter behind", "-"+s+"x", 1, api.ErrLexInt)
		}
	}
	wantScan(t, "signs are no part of an int", "-1 +2 1-2 1.5", sign(0, "-"), integer(1, 1), sign(3, "+"), integer(4, 2), integer(6, 1), sign(7, "-"), integer(8, 2), integer(10, 1), sign(11, "."), integer(12, 5))
}

func TestP15_1BehindInts(t *testing.T) {
	for c := range 256 {
		b := one(c)
		switch {
		case strings.Contains(letters, b):
			for _, n := range []string{"0", "12", "007", maxInt, overInt, strings.Repeat("9", 50)} {
				wantRefused(t, "a letter right behind an int", n+b, 0, api.ErrLexInt)
				wantRefused(t, "a letter right behind an int", "x "+n+b+" ?", 2, api.ErrLexInt)
				wantRefused(t, "letters right behind an int", n+strings.Repeat(b, 40), 0, api.ErrLexInt)
			}
		case strings.Contains(digits, b):
			wantScan(t, "a digit behind digits", "12"+b, integer(0, int64(120+c-'0')))
		case strings.Contains(" \t\n\r%", b):
			wantScan(t, "a blank or a note right behind an int", "12"+b, integer(0, 12))
		case strings.Contains("=<>+-*/!(){}[],;.", b):
			wantScan(t, "a sign right behind an int", "12"+b, integer(0, 12), sign(2, b))
		case b == `"`:
			wantScan(t, "a text right behind an int", "12"+b+b, integer(0, 12), raw(2, ""))
		default:
			wantRefused(t, "another byte right behind an int", "12"+b, 2, api.ErrLexByte)
		}
	}
}

func TestP15_1Names(t *testing.T) {
	for _, first := range []string{"a", "m", "z", "A", "M", "Z", "_"} {
		make := name
		if first < "a" {
			make = variable
		}
		long := first + strings.Repeat("n_N9", 8)
		wantScan(t, "a name of 1 byte", first, make(0, first))
		wantScan(t, "a name of 2 bytes", " "+first+first+" ", make(1, first+first))
		wantScan(t, "a name of 31 bytes", long[:31], make(0, long[:31]))
		wantScan(t, "a name of 32 bytes", "+"+long[:32]+"-1", sign(0, "+"), make(1, long[:32]), sign(33, "-"), integer(34, 1))
		wantRefused(t, "a name of 33 bytes", long[:33], 0, api.ErrLexName)
		wantRefused(t, "a name of 33 bytes", "1 "+long[:33]+" ?", 2, api.ErrLexName)
		wantRefused(t, "a name of 33 bytes", "1 "+long[:33]+"\xff", 2, api.ErrLexName)
		wantRefused(t, "a name of 16384 bytes", strings.Repeat(first, 16384), 0, api.ErrLexName)
		for c := range 256 {
			b := one(c)
			if strings.Contains(letters+digits, b) {
				wantScan(t, "a byte of a name", first+b+"k", make(0, first+b+"k"))
				wantScan(t, "the 32nd byte of a name", long[:31]+b, make(0, long[:31]+b))
				wantRefused(t, "the 33rd byte of a name", long[:32]+b, 0, api.ErrLexName)
			} else if strings.Contains(" \t\n\r%", b) {
				wantScan(t, "no byte of a name", long[:32]+b, make(0, long[:32]))
			}
		}
	}
	for c := range 256 {
		if b := one(c); strings.Contains(smalls, b) {
			wantScan(t, "an atom's first byte", b, name(0, b))
			wantScan(t, "an atom's first byte", b+"_1", name(0, b+"_1"))
		} else if strings.Contains(capitals+"_", b) {
			wantScan(t, "a variable's first byte", b, variable(0, b))
			wantScan(t, "a variable's first byte", b+"_1", variable(0, b+"_1"))
		}
	}
	wantScan(t, "variables", "_ __ _1 _a _A A_ A1", variable(0, "_"), variable(2, "__"), variable(5, "_1"), variable(8, "_a"), variable(11, "_A"), variable(14, "A_"), variable(17, "A1"))
}

func TestP15_1Words(t *testing.T) {
	for _, w := range words() {
		wantScan(t, "a word", w, word(0, w))
		wantScan(t, "a word between signs", "("+w+")", sign(0, "("), word(1, w), sign(1+len(w), ")"))
		wantScan(t, "a byte less in front", w[1:], name(0, w[1:]))
		wantScan(t, "a byte less behind", w[:len(w)-1], name(0, w[:len(w)-1]))
		wantScan(t, "all in capitals", strings.ToUpper(w), variable(0, strings.ToUpper(w)))
		wantScan(t, "the first in capitals", strings.ToUpper(w[:1])+w[1:], variable(0, strings.ToUpper(w[:1])+w[1:]))
		wantScan(t, "the last in capitals", w[:len(w)-1]+strings.ToUpper(w[len(w)-1:]), name(0, w[:len(w)-1]+strings.ToUpper(w[len(w)-1:])))
		wantScan(t, "within quotes", `"`+w+`"`, raw(0, w))
		for _, c := range letters + digits {
			wantScan(t, "a byte more behind", w+string(c), name(0, w+string(c)))
			if strings.ContainsRune(smalls, c) {
				wantScan(t, "a byte more in front", string(c)+w, name(0, string(c)+w))
			} else if strings.ContainsRune(capitals+"_", c) {
				wantScan(t, "a byte more in front", string(c)+w, variable(0, string(c)+w))
			} else {
				wantRefused(t, "a digit in front", string(c)+w, 0, api.ErrLexInt)
			}
		}
	}
	for _, s := range []string{"when", "if", "fun", "div", "not", "main", "spawn", "true", "begin", "catch", "or", "and"} {
		wantScan(t, "no word", s, name(0, s))
	}
}

func TestP15_1Quotes(t *testing.T) {
	for c := range 256 {
		b := one(c)
		switch {
		case b == `"`:
			wantRefused(t, "a quote behind a text", `"""`, 2, api.ErrLexText)
			wantScan(t, "two texts", `""""`, raw(0, ""), raw(2, ""))
		case b == `\`:
			wantRefused(t, "a \\ and a quote", `"\"`, 0, api.ErrLexText)
		case c < 32 || c > 126:
			wantRefused(t, "a byte that may not be", `"`+b+`"`, 0, api.ErrLexText)
			wantRefused(t, "a byte that may not be", `x "abc`+b+`" "`, 2, api.ErrLexText)
		default:
			wantScan(t, "a byte as it is", `"`+b+`"`, raw(0, b))
			wantScan(t, "a byte as it is", `"a`+b+`b"`+"c", raw(0, "a"+b+"b"), name(5, "c"))
		}
		switch i := strings.Index(`nt\"`, b); {
		case i >= 0:
			wantScan(t, "an escape", `"\`+b+`"`, raw(0, one([]int{10, 9, 92, 34}[i])))
			wantScan(t, "an escape", `"a\`+b+`b\`+b+`"`, raw(0, "a"+one([]int{10, 9, 92, 34}[i])+"b"+one([]int{10, 9, 92, 34}[i])))
			wantRefused(t, "an escape and no end", `+"\`+b, 1, api.ErrLexText)
		case b == "x":
			wantRefused(t, "\\x without digits", `"\x"`, 0, api.ErrLexText)
		default:
			wantRefused(t, "no escape", `"\`+b+`"`, 0, api.ErrLexText)
			wantRefused(t, "no escape", `"\`+b+`41"`, 0, api.ErrLexText)
		}
		wantScan(t, "digits of a byte", `"\x`+digits16(byte(c))+`"`, raw(0, b))
		wantScan(t, "digits of a byte and another digit", `"\x`+digits16(byte(c))+`0"`, raw(0, b+"0"))
		if !strings.Contains("0123456789abcdef", b) {
			for _, s := range []string{`"\x` + b + `0"`, `"\x0` + b + `"`, `"\x` + b + b + `"`, `"\x4` + b + `"`} {
				wantRefused(t, "no digit", s, 0, api.ErrLexText)
				wantRefused(t, "no digit", "a,"+s+`"`, 2, api.ErrLexText)
			}
		}
	}
	for _, s := range []string{`"`, `"a`, `"\`, `"a\`, `"\x`, `"\x4`, `"\x41`, `"\"`, `"\\\"`, `"\x4"`, `"\x"`, `"\xA0"`, `"\x0A"`, `"\xFF"`, `"\xfF"`, `"\X41"`, `"\r"`, `"\0"`, `"\'"`, `"\N"`, `"\u0041"`, "\"\n\"", "\"a\nb\"", "\"a\r\n", "\"\\\n\"", "\"\t\"", "\"\x7f\"", `"é"`} {
		wantRefused(t, "no text within quotes", s, 0, api.ErrLexText)
		wantRefused(t, "no text within quotes", "abc\n"+s, 4, api.ErrLexText)
	}
	wantScan(t, "quotes", `"" "a b" "\\" "\\\"" "\x22" "\x5c" "\x0a\x09" "\\n"`, raw(0, ""), raw(3, "a b"), raw(9, `\`), raw(14, `\"`), raw(21, `"`), raw(28, `\`), raw(35, "\n\t"), raw(46, `\n`))
	wantScan(t, "signs, names and ints within quotes", `"-> X a 1a ? ' :"`, raw(0, "-> X a 1a ? ' :"))
	wantScan(t, "a long text", `"`+strings.Repeat("q", 16382)+`"`, raw(0, strings.Repeat("q", 16382)))
	wantScan(t, "a long text of escapes", `"`+strings.Repeat(`\x00`, 4095)+`"`, raw(0, strings.Repeat("\x00", 4095)))
	wantRefused(t, "a long text without an end", `"`+strings.Repeat("q", 16383), 0, api.ErrLexText)
	wantRefusals(t, "an apostrophe is no quote", []refusal{{"'a'", 0, api.ErrLexByte}, {"a 'a'", 2, api.ErrLexByte}, {"`a`", 0, api.ErrLexByte}})
}

func TestP15_1Signs(t *testing.T) {
	for _, s := range allSigns() {
		wantScan(t, "a sign", s, sign(0, s))
		wantScan(t, "a sign between names", "a"+s+"b", name(0, "a"), sign(1, s), name(1+len(s), "b"))
		wantRefused(t, "a byte in no sign behind a sign", s+":", len(s), api.ErrLexByte)
		wantRefused(t, "a byte in no sign ahead of a sign", ":"+s, 0, api.ErrLexByte)
	}
	for _, c := range []struct {
		s string
		l []string
	}{
		{"=<", []string{"=<"}}, {"<=", []string{"<", "="}}, {"=>", []string{"=", ">"}}, {">=", []string{">="}}, {">==", []string{">=", "="}}, {"->", []string{"->"}}, {"-->", []string{"-", "->"}}, {"->>", []string{"->", ">"}}, {"/==", []string{"/=", "="}}, {"//=", []string{"/", "/="}},
		{"===", []string{"==", "="}}, {"====", []string{"==", "=="}}, {"==<", []string{"==", "<"}}, {"=<=", []string{"=<", "="}}, {"=<<", []string{"=<", "<"}}, {"=<>", []string{"=<", ">"}}, {"<>", []string{"<", ">"}}, {"<<", []string{"<", "<"}}, {">>=", []string{">", ">="}}, {"=/=", []string{"=", "/="}},
		{"!=", []string{"!", "="}}, {"=!", []string{"=", "!"}}, {"<-", []string{"<", "-"}}, {"--", []string{"-", "-"}}, {"->=", []string{"->", "="}}, {"-=", []string{"-", "="}}, {"->-", []string{"->", "-"}}, {"...", []string{".", ".", "."}}, {"+-*/", []string{"+", "-", "*", "/"}}, {"/>", []string{"/", ">"}}, {"<=>", []string{"<", "=", ">"}},
		{"(){}[],;.", []string{"(", ")", "{", "}", "[", "]", ",", ";", "."}}, {"++", []string{"+", "+"}}, {"=->", []string{"=", "->"}}, {"==>=", []string{"==", ">="}},
	} {
		var want []api.Token
		at := 0
		for _, s := range c.l {
			want = append(want, sign(at, s))
			at += len(s)
		}
		wantScan(t, "signs right behind one another", c.s, want...)
	}
	for _, b := range ":?@#$&'^`|~\\" {
		wantRefused(t, "a byte that is in no sign", string(b), 0, api.ErrLexByte)
		wantRefused(t, "a byte that is in no sign", "="+string(b)+"=", 1, api.ErrLexByte)
	}
	// Every row of few bytes out of those that signs are made of.
	for _, a := range "-=<>/" {
		for _, b := range "-=<>/" {
			for _, c := range "-=<>/ ." {
				for _, d := range "-=<>/ ." {
					wantAsked(t, string([]rune{a, b, c, d}))
				}
			}
		}
	}
}
