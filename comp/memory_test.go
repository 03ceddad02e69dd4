package comp_test

import (
	"runtime"
	"slices"
	"sync"
	"testing"
	"unsafe"

	"rookery/api"
	"rookery/comp"
)

// roomy: x anew, its lists with spare room in which something stands.
func roomy(x api.Tree) api.Tree {
	x.B = append(append(make([]byte, 0, len(x.B)+8), x.B...), "spare"...)[:len(x.B)]
	l := make([]api.Tree, 0, len(x.L)+2)
	for _, p := range x.L {
		l = append(l, roomy(p))
	}
	x.L = append(l, api.Tree{Kind: api.TVar, S: "Spare"})[:len(l)]
	return x
}

// room: what stands in the spare room of x's lists, and of its parts'.
func room(x api.Tree) []api.Tree {
	out := append([]api.Tree{{B: x.B[len(x.B):cap(x.B)]}}, x.L[len(x.L):cap(x.L)]...)
	for _, p := range x.L {
		out = append(out, room(p)...)
	}
	return out
}

// someTrees: right ones, spoilt ones and odd ones, and such with each error.
func someTrees(seed int64) []api.Tree {
	m := newMaker(seed)
	var out []api.Tree
	for i := range 400 {
		x := m.prog(1 + i%4)
		out = append(out, copied(x))
		m.spoil(&x)
		out = append(out, copied(x), m.odd(4))
	}
	for _, l := range checkFaults() {
		out = append(out, l...)
	}
	return append(out, inMain(exactly(4001)...), inMain(high(301)), inMain(raw(4096)))
}

func TestR4TreesAreNotChanged(t *testing.T) {
	for _, x := range someTrees(41) {
		given := roomy(x)
		was := room(roomy(x))
		comp.Compile(given)
		if !same(given, x) || !slices.EqualFunc(room(given), was, same) {
			t.Errorf("R4: what was handed in is changed: %s", show(x))
		}
	}
}

// block: a piece of memory, from its first byte up to behind its last one.
type block struct {
	from, to uintptr
	what     string
}

type blocks []block

func (b *blocks) add(what string, at unsafe.Pointer, size uintptr) {
	if size > 0 {
		*b = append(*b, block{uintptr(at), uintptr(at) + size, what})
	}
}

func (b *blocks) text(s string) { b.add(s, unsafe.Pointer(unsafe.StringData(s)), uintptr(len(s))) }

func addList[T any](b *blocks, what string, l []T) {
	var x T
	b.add(what, unsafe.Pointer(unsafe.SliceData(l)), uintptr(cap(l))*unsafe.Sizeof(x))
}

func (b *blocks) tree(x api.Tree) {
	b.text(x.S)
	addList(b, "a tree's bytes", x.B)
	addList(b, "a tree's parts", x.L)
	for _, p := range x.L {
		b.tree(p)
	}
}

func (b *blocks) term(x api.Term) {
	b.text(x.S)
	addList(b, "a term's bytes", x.B)
	addList(b, "a term's elements", x.L)
	for _, p := range x.L {
		b.term(p)
	}
}

func (b *blocks) funs(l []api.Fun) {
	addList(b, "functions", l)
	for _, f := range l {
		b.text(f.Name)
		addList(b, "instructions", f.Ins)
		for _, in := range f.Ins {
			b.term(in.T)
		}
	}
}

// overlap: two of the blocks that have a byte in common.
func overlap(l blocks) (string, bool) {
	l = slices.Clone(l)
	slices.SortFunc(l, func(a, b block) int { return int(a.from) - int(b.from) })
	for i := 1; i < len(l); i++ {
		if l[i].from < l[i-1].to {
			return l[i-1].what + " and " + l[i].what, true
		}
	}
	return "", false
}

// What Compile and Source answer shares no memory with a tree, with a text, with
// another answer, or with other parts of the same one.
func TestR4AnswersAreNewMemory(t *testing.T) {
	many := `f(A, _) -> receive {B, [A, "bytes", a]} -> "bytes", B; _ -> [] end, {infinity, timeout, ""}. main() -> f(a, a), "bytes" = "bytes", {} = {}, receive X -> main() end.`
	for _, s := range append(manyTexts(42), many, many) {
		x, ok := taken(s)
		if !ok {
			continue
		}
		x = roomy(copied(x))
		first, e := comp.Compile(x)
		if e != api.OK {
			continue
		}
		second, _ := comp.Compile(x)
		third, _, _ := comp.Source(s)
		fourth, _, _ := comp.Source(s)
		var l blocks
		l.tree(x)
		l.text(s)
		for _, answer := range [][]api.Fun{first, second, third, fourth} {
			l.funs(answer)
		}
		if what, ok := overlap(l); ok {
			t.Errorf("R4: of %s: memory is shared by %s", brief(s), what)
		}
		runtime.KeepAlive([]any{x, s, first, second, third, fourth})
	}
}

// R4: what is answered stays, whatever becomes of the tree and of another answer.
func TestR4NothingIsKept(t *testing.T) {
	s := `main() -> {A, "xyz", a} = f("abc", [1, - 2]), receive {A, "q"} -> f(A, b) end. f(X, Y) -> {X, Y, "uvw"}.`
	x := parse(t, s)
	want := asked(x)
	first, e := comp.Compile(x)
	second, _ := comp.Compile(x)
	if e != api.OK {
		t.Fatalf("P19.1: Compile of %s: %d", s, e)
	}
	for _, p := range all(&x) {
		for i := range p.B {
			p.B[i] = '#'
		}
		p.Kind, p.S, p.N = api.TInt, "", 5
	}
	for i := range first[:cap(first)] {
		f := &first[:cap(first)][i]
		for j := range f.Ins[:cap(f.Ins)] {
			in := &f.Ins[:cap(f.Ins)][j]
			for k := range in.T.B {
				in.T.B[k] = '?'
			}
			for k := range in.T.L {
				in.T.L[k] = api.Term{Kind: api.KAny}
			}
			*in = api.Ins{Op: 77}
		}
		*f = api.Fun{Name: "spoilt"}
	}
	if !sameFuns(second, want) {
		t.Errorf("R4: an answer was changed: %s; want %s", showFuns(second), showFuns(want))
	}
	third, at, e := comp.Source(s)
	if at != 0 || e != api.OK || !sameFuns(third, want) {
		t.Errorf("R4: a later answer was changed: %s, %d, %d; want %s", showFuns(third), at, e, showFuns(want))
	}
}

// R6: the same arguments, the same answers, whatever was asked in between, and
// whoever asks at the same time.
func TestR6TheSameAgain(t *testing.T) {
	l := someTrees(43)
	texts := manyTexts(44)
	var errors, textErrors []api.Errno
	var answers, textAnswers [][]api.Fun
	var places []int
	for _, x := range l {
		a, e := comp.Compile(x)
		answers, errors = append(answers, a), append(errors, e)
	}
	for _, s := range texts {
		a, at, e := comp.Source(s)
		textAnswers, textErrors, places = append(textAnswers, a), append(textErrors, e), append(places, at)
	}
	var group sync.WaitGroup
	for range 4 {
		group.Go(func() {
			for i, x := range slices.Backward(l) {
				if a, e := comp.Compile(copied(x)); e != errors[i] || !sameFuns(a, answers[i]) {
					t.Errorf("R6: Compile of %s: %s, %d, then %s, %d", show(x), showFuns(answers[i]), errors[i], showFuns(a), e)
				}
			}
			for i, s := range slices.Backward(texts) {
				if a, at, e := comp.Source(s); e != textErrors[i] || at != places[i] || !sameFuns(a, textAnswers[i]) {
					t.Errorf("R6: Source of %s: %s, %d, %d, then %s, %d, %d", brief(s), showFuns(textAnswers[i]), places[i], textErrors[i], showFuns(a), at, e)
				}
			}
		})
	}
	group.Wait()
}

// R6: trees one part of which stands in several places, in the same memory.
func TestR6SharedParts(t *testing.T) {
	m := newMaker(45)
	right := 0
	for i := range 1500 {
		m.bound, m.funs = nil, []api.Tree{tree(api.TFun, "main")}
		a, p := m.expr(i%4), m.pattern(i%3)
		both := equal(p, a)
		if wantAsked(t, "R6: shared parts", inMain(both, a, choice(both, clause(p, both), clause(p, a, both)), receive(clause(p, both), after(both, both)), both)) == api.OK {
			right++
		}
	}
	if right < 1000 {
		t.Errorf("only %d were right", right)
	}
}
