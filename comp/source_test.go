package comp_test

import (
	"fmt"
	"strings"
	"testing"

	"rookery/api"
	"rookery/comp"
	"rookery/gram"
	"rookery/lex"
)

// taken: the tree of a text, if lex and gram take it.
func taken(s string) (api.Tree, bool) {
	l, _, e := lex.Scan(s)
	if e != api.OK {
		return api.Tree{}, false
	}
	x, _, e := gram.Parse(l)
	return x, e == api.OK
}

func TestP19_1LexErrors(t *testing.T) {
	for s, at := range map[string]int{"?": 0, "main() -> ?.": 10, "main() -> 1. #": 13, "% a note\n\x00": 9, "main() -> 1.\n\n  \xc3\xa9": 16, "main(~) -> X.": 5} {
		wantSource(t, "ErrLexByte", s, at, api.ErrLexByte)
	}
	long := strings.Repeat("x", 33)
	for s, at := range map[string]int{"main() -> 4611686018427387904.": 10, "main() -> 1a.": 10, "0_": 0, "main() -> {1, 2B}.": 14} {
		wantSource(t, "ErrLexInt", s, at, api.ErrLexInt)
	}
	for s, at := range map[string]int{long + "() -> 1.": 0, "main() -> X = " + strings.ToUpper(long) + ".": 14, "main() -> 1, _" + long: 13} {
		wantSource(t, "ErrLexName", s, at, api.ErrLexName)
	}
	for s, at := range map[string]int{`main() -> ".`: 10, `main() -> "\q".`: 10, `main() -> "a", "\x0".`: 15, "main() -> \"\n\".": 10} {
		wantSource(t, "ErrLexText", s, at, api.ErrLexText)
	}
	many := "main() -> " + strings.Repeat("1,", 1997)
	wantSource(t, "4000 tokens", many+"1.", 0, api.OK)
	wantSource(t, "ErrLexMany", many+"11,1", len(many)+3, api.ErrLexMany)
	wantSource(t, "ErrLexMany of what no token begins with", many+"1, ?", len(many)+3, api.ErrLexMany)
}

// Source's place of gram's errors is the token's number, not its place.
func TestP19_1GramErrors(t *testing.T) {
	for s, at := range map[string]int{
		"main": 1, "main() ->": 4, "main() -> ": 4, "main() -> 1": 5, "main() -> 1 1.": 5, "X": 0, "main() -> , 1.": 4, "main(1) -> 1.": 2, "  % a note\n end": 0, "main() -> 1. main": 7,
		"main() -> case 1 of end.": 7, "main() -> receive end.": 5, "main() -> 1 = 2 ! .": 8, `"a"`: 0, "main() -> {1, 2.": 8, "main() -> 1 == 2 == 3.": 7, "f() -> case X of 1 + 2 -> 3 end.": 8, ".": 0,
	} {
		wantSource(t, "ErrGramToken", s, at, api.ErrGramToken)
	}
	for _, c := range []struct{ open, in, shut string }{{"{", "1", "}"}, {"[", "1", "]"}, {"(", "1", ")"}, {"- ", "1", ""}, {"1 ! ", "1", ""}, {"1 = ", "1", ""}, {"receive after 1 -> ", "1", " end"}, {"case 1 of 1 -> ", "1", " end"}} {
		tokens := len(strings.Fields(strings.NewReplacer("{", "{ ", "[", "[ ", "(", "( ").Replace(c.open)))
		nested := func(n int) string {
			return "main() -> " + strings.Repeat(c.open, n) + c.in + strings.Repeat(c.shut, n) + "."
		}
		at := 4 + 40*tokens
		if strings.HasPrefix(c.open, "1") {
			at++
		}
		wantSource(t, "40 deep", nested(40), 0, errorOf(t, nested(40)))
		wantSource(t, "ErrGramDeep", nested(41), at, api.ErrGramDeep)
		wantSource(t, "ErrGramDeep", nested(60), at, api.ErrGramDeep)
	}
}

// errorOf: of a text that parses, what Compile answers of its tree.
func errorOf(t testing.TB, s string) api.Errno {
	t.Helper()
	_, e := comp.Compile(parse(t, s))
	return e
}

func TestP19_1SourceChecksErrors(t *testing.T) {
	funs := ""
	for i := range api.MaxFuns {
		funs += fmt.Sprintf("f%d() -> 1. ", i)
	}
	for s, e := range map[string]api.Errno{
		"main() -> X.": api.ErrCheckVar, "main() -> _.": api.ErrCheckVar, "main() -> case 1 of Y -> Y end, Y.": api.ErrCheckVar, "main() -> X = X.": api.ErrCheckVar,
		"main() -> f().": api.ErrCheckCall, "main() -> main(1).": api.ErrCheckCall, "main() -> 1 + 2 = 3.": api.ErrCheckPattern, "main() -> case 1 of - - 1 -> 2 end.": api.ErrCheckPattern,
		"": api.ErrCheckMain, " \t\r\n": api.ErrCheckMain, "% main() -> 1.": api.ErrCheckMain, "f() -> 1.": api.ErrCheckMain, "main(X) -> X.": api.ErrCheckMain,
		"main() -> 1. main() -> 2.": api.ErrCheckTwice, "main() -> 1. f(X, X) -> 1.": api.ErrCheckTwice, "main() -> 1. self() -> 1.": api.ErrCheckName,
		`main() -> "` + strings.Repeat("a", 4097) + `".`: api.ErrCheckTree, funs + "main() -> 1.": api.ErrCheckMany, "main() -> {" + strings.Repeat("1,", 256) + "1}.": api.ErrCheckMany,
	} {
		wantSource(t, "check's error", s, 0, e)
	}
	for s, e := range map[string]api.Errno{
		"main() -> " + strings.Repeat("1 = 1, ", 800-1) + "1 = 1.":                                                                api.OK,
		"main() -> " + strings.Repeat("1 = 1, ", 799) + "- 1, 1.":                                                                 api.OK,
		"main() -> " + strings.Repeat("1 = 1, ", 799) + "- - 1, 1.":                                                               api.ErrCodeMany,
		"main() -> " + strings.Repeat("1 = 1, ", 799) + "- - - 1, 1.":                                                             api.ErrCodeMany,
		"main() -> " + strings.Repeat("receive A -> 1 end, ", 600) + "1.":                                                         api.ErrCodeMany,
		"main() -> {" + strings.Repeat("1, ", 255) + "{" + strings.Repeat("1, ", 44) + "1}}.":                                     api.OK,
		"main() -> {" + strings.Repeat("1, ", 255) + "{" + strings.Repeat("1, ", 45) + "1}}.":                                     api.ErrCodeStack,
		`main() -> "` + strings.Repeat("a", 4095) + `".`:                                                                          api.OK,
		`main() -> "` + strings.Repeat("a", 4096) + `".`:                                                                          api.ErrCodeIns,
		"main() -> " + strings.Repeat("{", 23) + "X" + strings.Repeat("}", 23) + " = 1.":                                          api.OK,
		"main() -> " + strings.Repeat("{", 24) + "X" + strings.Repeat("}", 24) + " = 1.":                                          api.ErrCodeIns,
		"main() -> case 1 of " + strings.Repeat("[", 24) + strings.Repeat("]", 24) + " -> " + "1 end.":                            api.OK,
		"main() -> case 1 of " + strings.Repeat("[", 25) + strings.Repeat("]", 25) + " -> " + strings.Repeat("1, ", 9) + "1 end.": api.ErrCodeIns,
	} {
		wantSource(t, "code's error", s, 0, e)
	}
}

// R1: lex's errors go ahead of gram's, these ahead of check's, those ahead of
// code's, wherever they stand.
func TestR1SourcesOrder(t *testing.T) {
	lexed := []struct {
		s string
		e api.Errno
	}{{"?", api.ErrLexByte}, {"1a", api.ErrLexInt}, {`"`, api.ErrLexText}}
	wrong := []string{"f( -> 1. ", "f() -> X. ", "f() -> g(). ", "f() -> {" + strings.Repeat("1,", 255) + "{" + strings.Repeat("1,", 60) + "1}}. "}
	for _, x := range lexed {
		for _, s := range wrong {
			wantSource(t, "lex's error behind another one", s+x.s, len(s), x.e)
		}
	}
	for _, s := range wrong[1:] {
		n, _, _ := lex.Scan(s)
		wantSource(t, "gram's error behind another one", s+"f(1)", len(n)+2, api.ErrGramToken)
	}
	wantSource(t, "check's error behind code's", wrong[3]+"main() -> X.", 0, api.ErrCheckVar)
	wantSource(t, "check's last error behind code's", wrong[3], 0, api.ErrCheckMain)
	wantSource(t, "code's error", wrong[3]+"main() -> 1.", 0, api.ErrCodeStack)
}

func TestP19_1LongTexts(t *testing.T) {
	s := "main() -> 1."
	for _, n := range []int{api.MaxSource - 1, api.MaxSource} {
		for _, long := range []string{s + strings.Repeat(" ", n-len(s)), strings.Repeat("\n", n-len(s)) + s, s + "%" + strings.Repeat("?", n-len(s)-1)} {
			wantCode(t, "as long as may be", long, "Push 1, Ret")
		}
	}
	for _, n := range []int{api.MaxSource + 1, 1 << 20, 1 << 25} {
		wantSource(t, "too long", s+strings.Repeat(" ", n-len(s)), 0, api.ErrLexLong)
		wantSource(t, "too long", strings.Repeat("?", n), 0, api.ErrLexLong)
		wantSource(t, "too long", strings.Repeat("\x00", n), 0, api.ErrLexLong)
	}
	wantCode(t, "a text without blanks", "main()->X=1,X.", "Push 1, Match V0 else 3, Jump 4, Fail 1, Pop, Load 0, Ret")
	wantCode(t, "texts of many bytes", `main() -> "`+strings.Repeat("a", 4000)+`", "`+strings.Repeat(`\x00`, 1000)+`".`, `Push "`+strings.Repeat("a", 4000)+`", Pop, Push "`+strings.Repeat(`\x00`, 1000)+`", Ret`)
}
