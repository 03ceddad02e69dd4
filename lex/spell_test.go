package lex_test

import (
	"math"
	"strings"
	"testing"

	"rookery/api"
	"rookery/lex"
)

func TestP15_1Word(t *testing.T) {
	for _, w := range words() {
		for _, s := range []string{w, strings.Clone(w), string([]byte(w))} {
			if !lex.Word(s) {
				t.Errorf("P15.1: Word(%q): false", s)
			}
		}
		for _, s := range []string{w[1:], w[:len(w)-1], w + "s", "s" + w, w + " ", " " + w, w + w, strings.ToUpper(w), strings.ToUpper(w[:1]) + w[1:], w + "\x00", "\x00" + w, `"` + w + `"`} {
			if lex.Word(s) {
				t.Errorf("P15.1: Word(%q): true", s)
			}
		}
		for _, v := range words() {
			if lex.Word(w + " " + v) {
				t.Errorf("P15.1: Word(%q): true", w+" "+v)
			}
		}
	}
	for _, s := range []string{"", " ", "a", "A", "_", "1", "->", "when", "if", "fun", "div", "and", "or", "not", "main", "true", "\xff", strings.Repeat("a", 33), strings.Repeat("end", 1<<16)} {
		if lex.Word(s) {
			t.Errorf("P15.1: Word(%q): true", brief(s))
		}
	}
}

func TestP15_2Ints(t *testing.T) {
	for n, want := range map[int64]string{0: "0", 1: "1", 9: "9", 10: "10", 12: "12", 100: "100", api.MaxInt: maxInt, api.MaxInt + 1: overInt, math.MaxInt64: "9223372036854775807", -1: "", -10: "", api.MinInt: "", math.MinInt64: "", math.MinInt64 + 1: ""} {
		wantSpell(t, "an int", api.Token{Kind: api.TkInt, N: n}, want)
		wantSpell(t, "fields that an int does not name", api.Token{Kind: api.TkInt, N: n, S: "s", B: []byte("b"), At: 7}, want)
	}
}

// S as it is, whatever it is.
func TestP15_2Names(t *testing.T) {
	for _, kind := range []int{api.TkAtom, api.TkVar, api.TkSign, api.TkWord} {
		for _, s := range []string{"", "a", "X", "_", "end", "->", ".", " ", "1", "a b", "\"", "\x00", "\n", "é", "\xff", "%", strings.Repeat("n", 33), strings.Repeat("n", 1<<20)} {
			wantSpell(t, "S", api.Token{Kind: kind, S: s}, s)
			wantSpell(t, "fields that the kind does not name", api.Token{Kind: kind, S: s, N: -5, B: []byte("b"), At: -7}, s)
		}
	}
}

func TestP15_2Bytes(t *testing.T) {
	var all, allText string
	for c := range 256 {
		b := one(c)
		want := `\x` + digits16(byte(c))
		switch i := strings.Index("\n\t\\\"", b); {
		case i >= 0:
			want = []string{`\n`, `\t`, `\\`, `\"`}[i]
		case c >= 32 && c <= 126:
			want = b
		}
		wantSpell(t, "a byte", raw(0, b), `"`+want+`"`)
		wantSpell(t, "bytes", raw(0, "a"+b+b+"1"), `"a`+want+want+`1"`)
		wantSpell(t, "fields that bytes do not name", api.Token{Kind: api.TkBytes, B: []byte(b), S: "s", N: 9, At: 3}, `"`+want+`"`)
		all, allText = all+b, allText+want
	}
	wantSpell(t, "all bytes", raw(0, all), `"`+allText+`"`)
	wantSpell(t, "no byte", api.Token{Kind: api.TkBytes}, `""`)
	wantSpell(t, "no byte", api.Token{Kind: api.TkBytes, B: []byte{}}, `""`)
	wantSpell(t, "bytes that look like an escape", raw(0, `\x41\n`), `"\\x41\\n"`)
	wantSpell(t, "bytes behind one that is told by digits", raw(0, "\x000\x7fa\r\v"), `"\x000\x7fa\x0d\x0b"`)
	wantSpell(t, "very many bytes", raw(0, strings.Repeat("\xff", 1<<20)), `"`+strings.Repeat(`\xff`, 1<<20)+`"`)
}

func TestP15_2OtherKinds(t *testing.T) {
	for _, kind := range []int{0, 7, 8, 9, 10, -1, -2, -6, 256, 257, 1 << 32, 1<<32 + 1, math.MaxInt, math.MinInt} {
		for _, x := range []api.Token{{}, {S: "x"}, {N: 5}, {B: []byte("b")}, {S: "x", N: 5, B: []byte("b"), At: 3}} {
			x.Kind = kind
			wantSpell(t, "another kind", x, "")
		}
	}
}
