package gram_test

import (
	"slices"
	"strings"
	"testing"
	"unsafe"

	"rookery/api"
	"rookery/gram"
)

func shares(a, b string) bool {
	return len(a) > 0 && len(b) > 0 && unsafe.StringData(a) == unsafe.StringData(b)
}

// own: the tokens anew, each text of its own, each list with room behind it in
// which something stands.
func own(l []api.Token) []api.Token {
	out := make([]api.Token, 0, len(l)+2)
	for _, x := range l {
		x.S = strings.Clone(x.S)
		x.B = append(append(make([]byte, 0, len(x.B)+8), x.B...), "spare"...)[:len(x.B)]
		out = append(out, x)
	}
	return append(out, api.Token{Kind: 55, S: "spare", B: []byte("spare")})[:len(l)]
}

// whole memory of a list of tokens, its spare room included, copied.
func memory(l []api.Token) []api.Token {
	out := slices.Clone(l[:cap(l)])
	for i := range out {
		out[i].B = slices.Clone(out[i].B[:cap(out[i].B)])
	}
	return out
}

func samples(t *testing.T) [][]api.Token {
	m := newMaker(4)
	var out [][]api.Token
	for _, s := range programs() {
		out = append(out, scan(t, s))
	}
	for range 300 {
		l := m.writtenProg(m.prog(3))
		out = append(out, l, m.spoil(l, m.anyToken), m.spoil(l, m.oddToken))
	}
	return out
}

func TestR4TokensAreNotChanged(t *testing.T) {
	for _, l := range samples(t) {
		given := own(l)
		before := memory(given)
		gram.Parse(given)
		if !slices.EqualFunc(memory(given), before, equalToken) {
			t.Errorf("R4: Parse changed what it was handed: %s", told(l))
		}
	}
}

// scramble writes into all memory that x leads to, its spare room included.
func scramble(x *api.Tree) {
	for i := range x.B[:cap(x.B)] {
		x.B[:cap(x.B)][i] ^= 0x55
	}
	room := x.L[:cap(x.L)]
	for i := range room {
		scramble(&room[i])
		room[i].Kind, room[i].N, room[i].S, room[i].L = 99, -7, "spoilt", nil
	}
}

// Neither what is handed in nor another answer shares memory with an answer.
func TestR4AnswersApart(t *testing.T) {
	for _, l := range samples(t) {
		given := own(l)
		first, at, e := gram.Parse(given)
		second, _, _ := gram.Parse(given)
		want, _, _ := gram.Parse(slices.Clone(l))
		before := memory(given)
		scramble(&first)
		if !slices.EqualFunc(memory(given), before, equalToken) {
			t.Errorf("R4: an answer shares memory with what was handed in: %s", told(l))
		}
		if !equal(second, want) {
			t.Errorf("R4: two answers share memory: %s", told(l))
		}
		for i := range given {
			copy(given[i].B, "!!!!!!!!")
			given[i] = api.Token{Kind: 77}
		}
		if !equal(second, want) {
			t.Errorf("R4: an answer keeps what was handed in: %s", told(l))
		}
		if third, at3, e3 := gram.Parse(slices.Clone(l)); !equal(third, want) || at3 != at || e3 != e {
			t.Errorf("R4: an answer shares memory with what is kept: %s", told(l))
		}
	}
}

// all: every part of x.
func all(x *api.Tree) []*api.Tree {
	out := []*api.Tree{x}
	for i := range x.L {
		out = append(out, all(&x.L[i])...)
	}
	return out
}

// No two lists of one answer share memory, their spare room included.
func TestR4ListsApart(t *testing.T) {
	for _, l := range samples(t) {
		x, _, _ := gram.Parse(l)
		want, _, _ := gram.Parse(l)
		for _, p := range all(&x) {
			for i := len(p.L); i < cap(p.L); i++ {
				p.L[:cap(p.L)][i] = api.Tree{Kind: 99}
			}
			for i := len(p.B); i < cap(p.B); i++ {
				p.B[:cap(p.B)][i] = 0x55
			}
		}
		if !equal(x, want) {
			t.Errorf("R4: two lists of one answer share memory: %s", told(l))
		}
	}
	x, _, _ := gram.Parse(scan(t, `f() -> "abc", "abc", {}, {a}, [a], g(), g(1, 2).`))
	body := x.L[0].L[0].L
	body[0].B[0] = 'z'
	body[3].L[0].S = "z"
	if string(body[1].B) != "abc" || body[4].L[0].S != "a" {
		t.Error("R4: two parts of one answer share memory")
	}
}

func TestR4TextsAreNotKept(t *testing.T) {
	for _, l := range samples(t) {
		given := own(l)
		x, _, _ := gram.Parse(given)
		parts := all(&x)
		names := gram.Names(x)
		for _, p := range parts {
			for _, g := range given {
				if shares(p.S, g.S) {
					t.Errorf("R4: the text %q of an answer is the one that was handed in", p.S)
				}
			}
			for _, s := range names {
				if shares(p.S, s) {
					t.Errorf("R4: the name %q is the text that was handed in", s)
				}
			}
		}
	}
}

// roomy: x anew, its lists with spare room in which something stands.
func roomy(x api.Tree) api.Tree {
	x.B = append(append(make([]byte, 0, len(x.B)+8), x.B...), "spare"...)[:len(x.B)]
	l := make([]api.Tree, 0, len(x.L)+2)
	for _, p := range x.L {
		l = append(l, roomy(p))
	}
	x.L = append(l, api.Tree{Kind: api.TAtom, S: "spare"})[:len(l)]
	return x
}

// spare: what stands in the spare room of x's lists, and of its parts'.
func spare(x api.Tree) []api.Tree {
	out := append([]api.Tree{{B: x.B[len(x.B):cap(x.B)]}}, x.L[len(x.L):cap(x.L)]...)
	for _, p := range x.L {
		out = append(out, spare(p)...)
	}
	return out
}

func TestR4NamesChangeNothing(t *testing.T) {
	m := newMaker(5)
	for range 500 {
		x := m.odd(4)
		given := roomy(x)
		first, second := gram.Names(given), gram.Names(given)
		if !equal(given, x) || !slices.EqualFunc(spare(given), spare(roomy(x)), equal) {
			t.Errorf("R4: Names changed what it was handed: %s", show(x))
		}
		want := named(x, 4000)
		for i := range first[:cap(first)] {
			first[:cap(first)][i] = "spoilt"
		}
		if !slices.Equal(second, want) || !equal(given, x) {
			t.Errorf("R4: an answer of Names shares memory: %s", show(x))
		}
	}
}

// R2: beside an error the tree is zero, also where much of it was there already.
func TestR2ZeroBesideAnError(t *testing.T) {
	l := scan(t, `f(X) -> {1, "q", g(a)}, X. h() -> case 1 of 2 -> 3 end.`)
	for i := range l {
		if x, at, e := gram.Parse(slices.Concat(l[:i], []api.Token{{}}, l[i:])); e != api.ErrGramToken || at != i || x.Kind != 0 || x.S != "" || x.N != 0 || x.B != nil || x.L != nil {
			t.Errorf("R2: beside an error: %v, %d, %d", x, at, e)
		}
	}
	if x, at, e := gram.Parse(nested(outerOnes(t, 41), integer(1))); e != api.ErrGramDeep || at != 44 || x.Kind != 0 || x.L != nil {
		t.Errorf("R2: beside an error: %v, %d, %d", x, at, e)
	}
}

// R3: an empty list is as good as none.
func TestR3Empty(t *testing.T) {
	for _, l := range [][]api.Token{bodied(api.Token{Kind: api.TkBytes}), bodied(api.Token{Kind: api.TkBytes, B: []byte{}}), bodied(api.Token{Kind: api.TkBytes, B: make([]byte, 0, 9)})} {
		wantTree(t, "R3: no bytes", l, inBody(api.Tree{Kind: api.TBytes}))
	}
	wantNames(t, "R3: no parts", api.Tree{Kind: api.TCall, S: "g", L: []api.Tree{}}, "g")
	wantNames(t, "R3: no parts", api.Tree{Kind: api.TCall, S: "g", L: make([]api.Tree, 0, 5)}, "g")
}

// R6: the same arguments, the same answers, whatever was asked in between.
func TestR6TheSameAgain(t *testing.T) {
	m := newMaker(6)
	for _, l := range samples(t) {
		x, at, e := gram.Parse(l)
		names := gram.Names(x)
		for range 3 {
			gram.Parse(m.spoil(l, m.anyToken))
			gram.Names(m.odd(3))
			if y, at2, e2 := gram.Parse(own(l)); !equal(x, y) || at != at2 || e != e2 || !slices.Equal(gram.Names(y), names) {
				t.Errorf("R6: Parse of %s: %d, %d, then %d, %d", told(l), at, e, at2, e2)
			}
		}
	}
}

// P1: whatever the tokens are, each call ends.
func TestP1AnyTokens(t *testing.T) {
	r, m := readGrammar(), newMaker(1)
	for range 20000 {
		var l []api.Token
		for range m.Intn(12) {
			l = append(l, m.oddToken())
		}
		r.wantAsked(t, "P1: any tokens", l)
		r.wantAsked(t, "P1: any tokens in a body", bodied(l...))
	}
	for _, x := range append(allTokens(), api.Token{}, api.Token{Kind: 7, S: "("}) {
		for _, n := range []int{1, 2, 3, 40, 41, 42, 4000, 100000} {
			l := slices.Repeat([]api.Token{x}, n)
			_, at, e := r.asked(l)
			wantRefused(t, "P1: one token again and again", l, at, e)
			_, at, e = r.asked(bodied(l...))
			if e != api.OK {
				wantRefused(t, "P1: one token again and again in a body", bodied(l...), at, e)
			}
		}
	}
}

func TestP1VeryMany(t *testing.T) {
	for _, s := range []string{"+", "*", ",", "rem"} {
		l := bodied(append(slices.Repeat(scan(t, "1 "+s), 200000), integer(2))...)
		x, at, e := gram.Parse(l)
		if e != api.OK || at != 0 || len(x.L) != 1 {
			t.Errorf("P1: very many %s: %d, %d", s, at, e)
		}
		gram.Names(x)
	}
	fun := bodied(integer(1))
	if x, at, e := gram.Parse(slices.Repeat(fun, 100000)); e != api.OK || at != 0 || len(x.L) != 100000 {
		t.Errorf("P1: very many functions: %d, %d, %d", len(x.L), at, e)
	}
	wantRefused(t, "P1: very many functions, the last one cut off", slices.Repeat(fun, 100000)[:599999], 599999, api.ErrGramToken)
	for _, s := range []string{"(", "{", "[", "- ", "case ", "receive a -> ", "g(", "A = ", "A ! "} {
		l := slices.Concat(bodied()[:4], slices.Repeat(scan(t, s), 200000))
		if x, at, e := gram.Parse(l); e != api.ErrGramDeep || !equal(x, api.Tree{}) {
			t.Errorf("P1: very deep %s: %d, %d", s, at, e)
		}
	}
}
