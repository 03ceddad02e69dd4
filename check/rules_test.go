package check_test

import (
	"slices"
	"testing"
	"unsafe"

	"rookery/api"
	"rookery/check"
)

func shares(a, b string) bool {
	return len(a) > 0 && len(b) > 0 && unsafe.StringData(a) == unsafe.StringData(b)
}

// roomy: x anew, its lists with spare room in which something stands.
func roomy(x api.Tree) api.Tree {
	x.B = append(append(make([]byte, 0, len(x.B)+8), x.B...), "spare"...)[:len(x.B)]
	l := make([]api.Tree, 0, len(x.L)+2)
	for _, p := range x.L {
		l = append(l, roomy(p))
	}
	x.L = append(l, api.Tree{Kind: api.TVar, S: "Spare"})[:len(l)]
	return x
}

// spare: what stands in the spare room of x's lists, and of its parts'.
func spare(x api.Tree) []api.Tree {
	out := append([]api.Tree{{B: x.B[len(x.B):cap(x.B)]}}, x.L[len(x.L):cap(x.L)]...)
	for _, p := range x.L {
		out = append(out, spare(p)...)
	}
	return out
}

// someTrees: right ones, spoilt ones and odd ones.
func someTrees(t testing.TB, seed int64) []api.Tree {
	m := newMaker(seed)
	var out []api.Tree
	for i := range 400 {
		x := m.prog(1 + i%4)
		out = append(out, copied(x))
		m.spoil(&x)
		out = append(out, x, m.odd(4))
	}
	for _, f := range faults(t) {
		out = append(out, withFaults(f, fault{})...)
	}
	return out
}

func TestR4TreesAreNotChanged(t *testing.T) {
	for _, x := range someTrees(t, 41) {
		given := roomy(x)
		room := spare(roomy(x))
		check.Check(given)
		for _, p := range all(&given) {
			check.Slots(*p)
		}
		if !same(given, x) || !slices.EqualFunc(spare(given), room, same) {
			t.Errorf("R4: what was handed in is changed: %s", show(x))
		}
	}
}

// What Slots answers shares no memory with the tree, nor with another answer.
func TestR4SlotsApart(t *testing.T) {
	for _, x := range someTrees(t, 42) {
		for _, f := range x.L {
			f = copied(f)
			first, second := check.Slots(f), check.Slots(f)
			want := slots(f)
			for _, p := range all(&f) {
				for _, s := range first {
					if shares(p.S, s) {
						t.Fatalf("R4: the name %q is the text that was handed in", s)
					}
				}
			}
			room := first[:cap(first)]
			for i := range room {
				room[i] = "Spoilt"
			}
			if !slices.Equal(second, want) || !slices.Equal(check.Slots(f), want) {
				t.Errorf("R4: an answer of Slots shares memory: %s", show(f))
			}
		}
	}
}

// R6: the same arguments, the same answers, whatever was asked in between.
func TestR6TheSameAgain(t *testing.T) {
	l := someTrees(t, 43)
	var errors []api.Errno
	for _, x := range l {
		errors = append(errors, check.Check(x))
	}
	for range 3 {
		for i, x := range slices.Backward(l) {
			if e := check.Check(copied(x)); e != errors[i] {
				t.Errorf("R6: Check of %s: %d, then %d", show(x), errors[i], e)
			}
			check.Builtin("hd", i)
		}
	}
	f := parse(t, "f(D, C) -> {B, A, E, F, G, H, I, J, K, L} = D, C.").L[0]
	want := check.Slots(f)
	for range 100 {
		if got := check.Slots(f); !slices.Equal(got, want) {
			t.Errorf("R6: Slots: %q, then %q", want, got)
		}
	}
}

// R3: lists that are empty and lists that are nil are the same.
func TestR3Empty(t *testing.T) {
	m := newMaker(3)
	for i := range 2000 {
		x := m.prog(1 + i%3)
		if i%2 == 0 {
			m.spoil(&x)
		}
		y, z := copied(x), copied(x)
		for _, p := range all(&y) {
			p.B = append([]byte{}, p.B...)
			p.L = append([]api.Tree{}, p.L...)
		}
		for _, p := range all(&z) {
			p.B = append([]byte(nil), p.B...)
			p.L = append([]api.Tree(nil), p.L...)
		}
		if a, b := check.Check(y), check.Check(z); a != b {
			t.Errorf("R3: Check of %s: %d with empty lists, %d with nil ones", show(x), a, b)
		}
	}
}

// R1: one and the same error of the first and of the third step hides nothing
// between them.
func TestR1ManyAndTree(t *testing.T) {
	wide := tuple(repeated(integer(1), 257)...)
	wantCheck(t, "R1: too wide", inMain(wide), api.ErrCheckMany)
	wantCheck(t, "R1: too wide, and no tree", inMain(wide, api.Tree{}), api.ErrCheckTree)
	wantCheck(t, "R1: too many parts, too wide, and no tree", inMain(append(repeated(wide, 16), api.Tree{})...), api.ErrCheckMany)
}

// P1: very great trees.
func TestP1Great(t *testing.T) {
	one := integer(1)
	for _, x := range []api.Tree{
		{Kind: api.TProg, L: make([]api.Tree, 1<<20)}, program(repeated(function("main", one), 1<<18)...), chain(one, 60000, func(x api.Tree) api.Tree { return program(x) }), chain(one, 60000, func(x api.Tree) api.Tree { return tree(api.TFun, "f", variable("A"), x) }), inMain(chain(one, 20000, func(x api.Tree) api.Tree { return choice(x, clause(variable("X"), x)) }).L[0]),
	} {
		if e := check.Check(x); e != api.ErrCheckMany {
			t.Errorf("P1: a very great tree: %d", e)
		}
	}
	wantCheck(t, "P1: very many bytes", inMain(raw(1<<26)), api.ErrCheckTree)
}
