package gram_test

import (
	"slices"
	"strings"
	"testing"

	"rookery/api"
)

func words() []string { return []string{"case", "of", "end", "receive", "after", "rem"} }

func allSigns() []string {
	return strings.Fields("-> == /= =< >= = < > + - * / ! ( ) { } [ ] , ; .")
}

// allTokens: one of each kind that a text may have, each sign and each word.
func allTokens() []api.Token {
	out := []api.Token{integer(7), name("k"), variable("V"), raw("t")}
	for _, s := range allSigns() {
		out = append(out, sign(s))
	}
	for _, s := range words() {
		out = append(out, word(s))
	}
	return out
}

func (r rules) wantAsked(t testing.TB, what string, l []api.Token) api.Errno {
	t.Helper()
	want, at, e := r.asked(l)
	if e == api.OK {
		wantTree(t, what, l, want)
	} else {
		wantRefused(t, what, l, at, e)
	}
	return e
}

// programs: each rule, with each of its parts there and not.
func programs() []string {
	return []string{
		"f() -> 1.", "f(X) -> X. g(X, Y, _) -> X, Y, a.", `f() -> "t", b, 0.`,
		"f() -> A = B = C ! D = E.", "f() -> A ! B ! C, D = E.",
		"f() -> 1 + 2 - 3 * 4 / 5 rem 6 < 7.", "f() -> A == B, A /= B, A =< B, A >= B, A > B.",
		"f() -> - 1 - - 2 + - ( - 3 ).", "f() -> g(), g(1), g(A, b, h(2)).",
		"f() -> ( ( A ) ), ( 1 + 2 ) * 3, ( A = 1 ) ! 2.", "f() -> {}, {1}, {1, {2, a}}, [], [1], [[], [2, 3]].",
		"f() -> case X of 1 -> a end.", "f() -> case X = 1 of - 1 -> a, b; {Y, _} -> Y; (A ! B) -> case 1 of 2 -> 3 end end, c.",
		"f() -> receive X -> X end.", "f() -> receive after 1 -> 2 end.", "f() -> receive a -> b, c; - - 1 -> d after A = 1 -> e, f end ! 1.",
		"f() -> receive receive after 1 -> 2 end -> case 1 of 1 -> 2 end end.",
	}
}

// Each token of each program left out, doubled, turned about with the next one,
// each other one in its place, ahead of it; and the program cut off there.
func TestP16_1EveryTokenEverywhere(t *testing.T) {
	r := readGrammar()
	for _, s := range programs() {
		l := scan(t, s)
		if r.wantAsked(t, "a program", l) != api.OK {
			t.Errorf("P16.1: %s is no program", s)
		}
		for i := range len(l) + 1 {
			r.wantAsked(t, "cut off", l[:i])
			r.wantAsked(t, "the beginning left out", l[i:])
			for _, x := range allTokens() {
				r.wantAsked(t, "a token put in", slices.Concat(l[:i], []api.Token{x}, l[i:]))
				if i < len(l) {
					r.wantAsked(t, "another token in its place", slices.Concat(l[:i], []api.Token{x}, l[i+1:]))
				}
			}
			if i < len(l) {
				r.wantAsked(t, "a token left out", slices.Concat(l[:i], l[i+1:]))
				r.wantAsked(t, "a token doubled", slices.Concat(l[:i+1], l[i:]))
			}
			if i+1 < len(l) {
				r.wantAsked(t, "two turned about", slices.Concat(l[:i], []api.Token{l[i+1], l[i]}, l[i+2:]))
			}
		}
	}
}

// short: every row of tokens behind l. Behind a token that is wrong the next
// ones change nothing.
func (r rules) short(t *testing.T, l []api.Token, all []*goal, alphabet []api.Token, more int) {
	for _, x := range alphabet {
		longer := append(slices.Clone(l), x)
		next, e := r.step(all, x)
		if e != api.OK {
			wantRefused(t, "short", longer, len(l), e)
			wantRefused(t, "short, and more behind", append(longer, alphabet...), len(l), e)
			continue
		}
		if whole(next) {
			wantTree(t, "short", longer, splitProg(longer))
		} else {
			wantRefused(t, "short", longer, len(longer), api.ErrGramToken)
		}
		if more > 1 {
			r.short(t, longer, next, alphabet, more-1)
		}
	}
}

func TestP16_1AllShort(t *testing.T) {
	r := readGrammar()
	for _, c := range []struct {
		s, alphabet string
		more        int
	}{
		{"", "f ( X , ) -> 1 .", 9},
		{"f() ->", "1 a ( ) , . -", 7},
		{"f() ->", "A = ! == + * .", 8},
		{"f() ->", "1 - + / rem < . ( )", 6},
		{"f() ->", "a { } [ ] , .", 7},
		{"f() -> case", "a of -> ; end . , -", 9},
		{"f() -> receive", "a -> ; after end . =", 9},
		{"f() -> case receive", "1 -> after end of .", 14},
	} {
		l := scan(t, c.s)
		all := r.begin()
		for _, x := range l {
			all, _ = r.step(all, x)
		}
		r.short(t, l, all, scan(t, c.alphabet), c.more)
	}
	all := r.begin()
	r.short(t, nil, all, allTokens(), 3)
	for _, s := range []string{"f() ->", "f() -> a", "f() -> -", "f() -> case A of", "f() -> receive", "f() -> receive A -> 1", "f(X"} {
		l := scan(t, s)
		all := r.begin()
		for _, x := range l {
			all, _ = r.step(all, x)
		}
		r.short(t, l, all, allTokens(), 3)
	}
}

func TestP16_1Made(t *testing.T) {
	r, m := readGrammar(), newMaker(162)
	seen := map[api.Errno]int{}
	for i := range 9000 {
		l := m.writtenProg(m.prog(1 + i%3))
		for range m.Intn(4) {
			l = m.spoil(l, m.anyToken)
		}
		seen[r.wantAsked(t, "made", l)]++
	}
	for range 9000 {
		l := m.writtenProg(m.prog(2))
		for range 1 + m.Intn(2) {
			l = m.spoil(l, m.oddToken)
		}
		seen[r.wantAsked(t, "made with odd tokens", l)]++
	}
	if seen[api.OK] < 2000 || seen[api.ErrGramToken] < 2000 {
		t.Errorf("P16.1: only so many were made: %v", seen)
	}
}
