package gram_test

import (
	"math"
	"slices"
	"strconv"
	"strings"
	"testing"

	"rookery/api"
	"rookery/gram"
)

func wantNames(t *testing.T, what string, x api.Tree, want ...string) {
	t.Helper()
	if got := gram.Names(x); !slices.Equal(got, want) {
		t.Errorf("P16.2: %s: Names: %d names, %q; want %d, %q", what, len(got), got[:min(len(got), 12)], len(want), want[:min(len(want), 12)])
	}
}

// named: the names among the first so many parts of x, worked out apart: by a
// list of what is left to go through.
func named(x api.Tree, parts int) []string {
	var out []string
	left := [][]api.Tree{{x}}
	for parts > 0 && len(left) > 0 {
		last := left[len(left)-1]
		left = left[:len(left)-1]
		if len(last) == 0 {
			continue
		}
		left = append(left, last[1:], last[0].L)
		if k := last[0].Kind; k == 2 || k == 3 || k == 11 || k == 17 {
			out = append(out, last[0].S)
		}
		parts--
	}
	return out
}

func TestP16_2Kinds(t *testing.T) {
	inner := []api.Tree{tree(api.TAtom, "in"), tree(api.TVar, "In", tree(api.TAtom, "deep"))}
	for _, kind := range []int{1, 2, 3, 4, 5, 6, 7, 8, 9, 10, 11, 12, 13, 14, 15, 16, 17, 18, 0, 19, 20, -1, -2, -11, 256 + 2, 1<<32 + 2, math.MaxInt, math.MinInt} {
		for _, s := range []string{"s", "", "A b", "\xff", strings.Repeat("n", 1<<16)} {
			var own []string
			if slices.Contains([]int{2, 3, 11, 17}, kind) {
				own = []string{s}
			}
			wantNames(t, "alone", api.Tree{Kind: kind, S: s}, own...)
			wantNames(t, "with all fields", api.Tree{Kind: kind, S: s, N: 5, B: []byte("b")}, own...)
			wantNames(t, "with parts", api.Tree{Kind: kind, S: s, N: 5, B: []byte("b"), L: inner}, append(own, "in", "In", "deep")...)
			wantNames(t, "as a part", api.Tree{Kind: api.TTuple, L: []api.Tree{{Kind: kind, S: s, L: inner}, {Kind: api.TAtom, S: "z"}}}, append(own, "in", "In", "deep", "z")...)
		}
	}
	wantNames(t, "the zero tree", api.Tree{})
	wantNames(t, "an empty list", api.Tree{L: []api.Tree{}})
	wantNames(t, "zero trees", api.Tree{L: make([]api.Tree, 9)})
}

func TestP16_2Order(t *testing.T) {
	for s, want := range map[string]string{
		"":                            "",
		"f() -> 1.":                   "f",
		"f(X) -> g(X, a), {Y, [b]}.":  "f X g X a Y b",
		"f(X, _, X) -> a. g() -> b.":  "f X _ X a g b",
		"f() -> A = B ! C + D * - E.": "f A B C D E",
		"f() -> case A of {B, c} -> d, E; F -> g() end, h.":            "f A B c d E F g h",
		"f() -> receive A -> b; c -> D after E -> f, G end.":           "f A b c D E f G",
		`f() -> "a", 1 rem b == (c), [[D]].`:                           "f b c D",
		"f() -> f(f, f(f)), F = f.":                                    "f f f f f F f",
		"f() -> receive after case A of b -> C end -> {d, - e} end.":   "f A b C d e",
		"f(_) -> _, _ = _, g(_), case _ of _ -> _ end. f(_) -> f(_). ": "f _ _ _ _ g _ _ _ _ f _ f _",
	} {
		x, _, _ := gram.Parse(scan(t, s))
		wantNames(t, s, x, strings.Fields(want)...)
	}
}

func atoms(n int) []api.Tree {
	out := make([]api.Tree, n)
	for i := range out {
		out[i] = tree(api.TAtom, "a"+strconv.Itoa(i))
	}
	return out
}

func texts(l []api.Tree) []string {
	var out []string
	for _, x := range l {
		out = append(out, x.S)
	}
	return out
}

// A tree is the first one of its own parts.
func TestP16_2Many(t *testing.T) {
	all := atoms(9000)
	for _, n := range []int{3997, 3998, 3999, 4000, 4001, 5000, 9000} {
		wantNames(t, "a list of "+strconv.Itoa(n), tree(api.TList, "", all[:n]...), texts(all[:min(n, 3999)])...)
		wantNames(t, "a call of "+strconv.Itoa(n), tree(api.TCall, "g", all[:n]...), append([]string{"g"}, texts(all[:min(n, 3999)])...)...)
		ints := make([]api.Tree, n)
		for i := range ints {
			ints[i] = treeInt(1)
		}
		want := []string{"last"}
		if n > 3998 {
			want = nil
		}
		wantNames(t, "one behind "+strconv.Itoa(n)+" ints", tree(api.TTuple, "", append(ints, tree(api.TAtom, "last"))...), want...)
	}
	pairs := make([]api.Tree, 3000)
	for i := range pairs {
		pairs[i] = tree(api.TVar, "P"+strconv.Itoa(i), tree(api.TAtom, "q"))
	}
	x := tree(api.TProg, "", pairs...)
	wantNames(t, "pairs", x, named(x, 4000)...)
	if got := gram.Names(x); len(got) != 3999 || got[3998] != "P1999" {
		t.Errorf("P16.2: pairs: %d names, the last one %q", len(got), got[len(got)-1])
	}
}

func chain(n int) api.Tree {
	x := tree(api.TAtom, "a"+strconv.Itoa(n-1))
	for i := n - 2; i >= 0; i-- {
		x = tree(api.TAtom, "a"+strconv.Itoa(i), x)
	}
	return x
}

func TestP16_2Deep(t *testing.T) {
	all := texts(atoms(1 << 16))
	for _, n := range []int{1, 2, 40, 41, 3999, 4000, 4001, 8000, 1 << 16} {
		wantNames(t, "a chain of "+strconv.Itoa(n), chain(n), all[:min(n, 4000)]...)
	}
}

// A tree that holds itself, and trees in which one list stands again and again.
func TestP16_2WithoutEnd(t *testing.T) {
	l := make([]api.Tree, 2)
	l[0], l[1] = tree(api.TAtom, "a", l...), tree(api.TVar, "X", l...)
	x := tree(api.TFun, "f", l...)
	wantNames(t, "it holds itself", x, named(x, 4000)...)
	if got := gram.Names(x); len(got) != 4000 {
		t.Errorf("P16.2: it holds itself: %d names", len(got))
	}
	nothing := make([]api.Tree, 1)
	nothing[0].L = nothing
	wantNames(t, "it holds itself and no name", nothing[0])
	wide := tree(api.TTuple, "", atoms(3)...)
	for range 60 {
		wide = tree(api.TList, "", wide, wide, tree(api.TVar, "V"), wide)
	}
	wantNames(t, "one list again and again", wide, named(wide, 4000)...)
}

func TestP16_2Made(t *testing.T) {
	m := newMaker(165)
	for i := range 3000 {
		x := m.prog(i % 6)
		wantNames(t, "made", x, named(x, 4000)...)
		odd := m.odd(6)
		wantNames(t, "made, of any kinds", odd, named(odd, 4000)...)
	}
}

// odd: a tree that Parse would not answer.
func (m maker) odd(nest int) api.Tree {
	x := api.Tree{Kind: m.Intn(22) - 1, S: pick(m, "a", "X", "", "->"), N: int64(m.Intn(3)), B: pick(m, nil, []byte("b"))}
	if nest > 0 {
		x.L = m.several(0, 4, func() api.Tree { return m.odd(nest - 1) })
	}
	return x
}
