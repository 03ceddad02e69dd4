package ties_test

import (
	"runtime"
	"slices"
	"strings"
	"sync"
	"testing"
	"unsafe"
	"weak"

	"rookery/api"
	"rookery/ties"
)

// roomy: t anew, with spare room in which something stands.
func roomy(t api.Term) api.Term {
	t.S = strings.Clone(t.S)
	t.B = append(append(make([]byte, 0, len(t.B)+8), t.B...), "spare"...)[:len(t.B)]
	l := make([]api.Term, 0, len(t.L)+2)
	for _, x := range t.L {
		l = append(l, roomy(x))
	}
	t.L = append(l, read("spare"))[:len(l)]
	return t
}

// whole: t with all that stands in its spare room.
func whole(t api.Term) api.Term {
	n := len(t.L)
	t.B, t.L = slices.Clone(t.B[:cap(t.B)]), slices.Clone(t.L[:cap(t.L)])
	for i := range n {
		t.L[i] = whole(t.L[i])
	}
	return t
}

// spoil changes all memory of t, its spare room included.
func spoil(t api.Term) {
	for i := range t.B[:cap(t.B)] {
		t.B[:cap(t.B)][i] ^= 0x55
	}
	for _, x := range t.L {
		spoil(x)
	}
	for i := range t.L[:cap(t.L)] {
		t.L[:cap(t.L)][i] = api.Term{Kind: 77, N: 5}
	}
}

// spoilList changes all of l, its spare room included.
func spoilList[T any](l []T, x T) {
	for i := range l[:cap(l)] {
		l[:cap(l)][i] = x
	}
}

// samples: terms of all kinds, and some that hold one list, or one piece of
// bytes, in two places.
func samples() []api.Term {
	m := newMaker(7)
	out := rightTerms()
	for range 100 {
		x := m.term(4)
		out = append(out, x, api.Term{Kind: api.KList, L: []api.Term{x, x, {Kind: api.KTuple, L: []api.Term{x}}}})
	}
	inner := roomy(read(`[{1,"bytes"},atom]`))
	return append(out, api.Term{Kind: api.KTuple, L: []api.Term{inner, inner, {Kind: api.KList, L: inner.L}}})
}

// tied: a process with some ties of each kind.
func tied(t *testing.T) *ties.Ties {
	x := newTies(t, idOf("1.1.1"))
	for _, s := range []string{"link 2.1.5", "link 2.1.4", "link 3.1.2", "watch 1.1.9 2.1.6", "watch 1.1.8 2.1.6", "watch 1.1.7 3.1.1", "watched 2.1.9 2.1.6", "watched 2.1.8 2.1.4", "watched 3.1.9 3.1.1"} {
		if got := told(x, callOf(s)); got != "ok" {
			t.Fatalf("P22.1, P22.2: %s: %s", s, got)
		}
	}
	return x
}

// R4: a reason, right or wrong, is not changed, its spare room included.
func TestR4NothingIsChanged(t *testing.T) {
	l := samples()
	for fault, wrong := range wrongTerms() {
		for i, x := range wrong {
			if fault != api.ErrTermDeep || i < len(wrong)-1 { // the last one holds itself
				l = append(l, x)
			}
		}
	}
	for _, x := range l {
		x = roomy(x)
		was := whole(x)
		for _, s := range tied(t).End(x) {
			spoil(s.T)
		}
		if !sameTerm(whole(x), was) {
			t.Errorf("R4: the reason is changed: of kind %d", x.Kind)
		}
	}
}

// R4: what is told of a reason stays, whatever becomes of the reason and of the
// other signals' terms.
func TestR4SignalsStandAlone(t *testing.T) {
	for _, x := range samples() {
		text := show(x)
		x = roomy(x)
		l := tied(t).End(x)
		if len(l) != 6 {
			t.Fatalf("P22.4: End: %d signals", len(l))
		}
		spoil(x)
		for i, s := range l {
			if got := show(s.T); got != text {
				t.Errorf("R4: End for %s: signal %d: %s behind what was spoilt outside", brief(text), i, brief(got))
			}
			_ = append(s.T.L, read("other"))
			_ = append(s.T.B, "other"...)
			spoil(s.T)
		}
	}
}

// R4: what is answered is not what is kept: ties whose answers are spoilt at
// each step go on as rows.
func TestR4NothingIsKept(t *testing.T) {
	m := newMaker(8)
	odd := idOf("9.9.9")
	for range 300 {
		x, r := newTies(t, idOf("1.1.1")), rows{me: idOf("1.1.1")}
		for range 150 {
			c := m.call(6, m.id)
			if m.Intn(30) == 0 {
				c = m.ending()
			}
			want := r.told(c)
			if got := told(x, c); got != want {
				t.Fatalf("R4: %s behind answers that were spoilt: %s; want %s", c.text(), brief(got), brief(want))
			}
			spoilList(x.Links(), odd)
			spoilList(x.Mine(), ties.Tie{Ref: odd, Other: odd})
			spoilList(x.Theirs(), ties.Tie{Ref: odd, Other: odd})
			_ = append(x.Links(), odd)
			_ = append(x.Mine(), ties.Tie{Ref: odd, Other: odd})
			_ = append(x.Theirs(), ties.Tie{Ref: odd, Other: odd})
			if c.name == "lost" || c.name == "end" {
				spoilSignals(x.Lost(c.node))
				r.lost(c.node)
			}
		}
	}
}

func spoilSignals(l []api.Signal) {
	for _, s := range l {
		spoil(s.T)
	}
	spoilList(l, api.Signal{Kind: 78})
}

// block: a piece of memory, from its first byte up to behind its last one.
type block struct {
	from, to uintptr
	what     string
}

type blocks []block

func (b *blocks) add(what string, at unsafe.Pointer, size uintptr) {
	if size > 0 {
		*b = append(*b, block{uintptr(at), uintptr(at) + size, what})
	}
}

func addList[T any](b *blocks, what string, l []T) {
	var x T
	b.add(what, unsafe.Pointer(unsafe.SliceData(l)), uintptr(cap(l))*unsafe.Sizeof(x))
}

func (b *blocks) term(what string, x api.Term) {
	b.add(what+": a name", unsafe.Pointer(unsafe.StringData(x.S)), uintptr(len(x.S)))
	addList(b, what+": bytes", x.B)
	addList(b, what+": elements", x.L)
	for _, y := range x.L {
		b.term(what, y)
	}
}

func (b *blocks) signals(what string, l []api.Signal) {
	addList(b, what, l)
	for _, s := range l {
		b.term(what, s.T)
	}
}

// overlap: two of the blocks that have a byte in common.
func overlap(l blocks) (string, bool) {
	slices.SortFunc(l, func(a, b block) int { return int(a.from) - int(b.from) })
	for i := 1; i < len(l); i++ {
		if l[i].from < l[i-1].to {
			return l[i-1].what + " and " + l[i].what, true
		}
	}
	return "", false
}

// R4: answers share no memory with a reason, with another answer, or within
// themselves; that of Lost neither.
func TestR4AnswersAreNewMemory(t *testing.T) {
	for _, reason := range samples() {
		var all blocks
		var keep []any
		for range 2 {
			x := tied(t)
			for range 2 {
				l, mine, theirs := x.Links(), x.Mine(), x.Theirs()
				addList(&all, "Links", l)
				addList(&all, "Mine", mine)
				addList(&all, "Theirs", theirs)
				keep = append(keep, l, mine, theirs)
			}
			lost := x.Lost(2)
			end := x.End(reason)
			if len(lost) != 4 || len(end) != 2 {
				t.Fatalf("P22.4, P22.5: %d and %d signals", len(lost), len(end))
			}
			another := tied(t).End(reason)
			all.signals("Lost", lost)
			all.signals("End", end)
			all.signals("End of another one", another)
			keep = append(keep, lost, end, another)
		}
		if what, ok := overlap(slices.Clone(all)); ok {
			t.Errorf("R4: for %s: memory is shared by %s", brief(show(reason)), what)
		}
		var given blocks
		given.term("the reason", reason)
		for _, g := range given {
			if what, ok := overlap(append(slices.Clone(all), g)); ok {
				t.Errorf("R4: for %s: memory is shared by %s", brief(show(reason)), what)
			}
		}
		runtime.KeepAlive(keep)
		runtime.KeepAlive(reason)
	}
}

// A reason, and what was told of it, is kept by the ties no more.
func TestR4ReasonsAreGone(t *testing.T) {
	x := tied(t)
	var gone []weak.Pointer[byte]
	for range 3 {
		for _, n := range []int{2000, 4095, 5000} {
			reason := api.Term{Kind: api.KBytes, B: make([]byte, n)}
			gone = append(gone, weak.Make(&reason.B[0]))
			for _, s := range x.End(reason) {
				gone = append(gone, weak.Make(&s.T.B[0]))
			}
		}
		told(x, callOf("link 2.1.5"))
	}
	for range 3 {
		runtime.GC()
	}
	for i, p := range gone {
		if p.Value() != nil {
			t.Errorf("R4: the reason, or a signal's term, number %d is kept", i)
		}
	}
	runtime.KeepAlive(x)
}

// course: all that the ties of one process answer to a script that the seed
// tells.
func course(t *testing.T, seed int64) string {
	m := newMaker(seed)
	x := newTies(t, idOf("1.1.1"))
	out := ""
	for makes := range 10 {
		for range 15 {
			c := m.call(makes, m.id)
			if m.Intn(20) == 0 {
				c = m.ending()
			}
			out += told(x, c) + "; "
		}
	}
	return out
}

// R6, R9: what the ties of one process answer hangs on nothing that others are
// told, one behind the other or at the same time, nor on a map's order.
func TestR6TheSameAgain(t *testing.T) {
	var want []string
	for seed := range int64(150) {
		want = append(want, course(t, seed))
	}
	var group sync.WaitGroup
	for range 4 {
		group.Go(func() {
			for seed, was := range slices.Backward(want) {
				if got := course(t, int64(seed)); got != was {
					t.Errorf("R6: %s; then %s", brief(was), brief(got))
				}
			}
		})
	}
	group.Wait()
}

// R6: the ties of many processes that are used by turns don't touch one another.
func TestR6SideBySide(t *testing.T) {
	m := newMaker(9)
	var l []*both
	for range 30 {
		l = append(l, newBoth(t, pick(m, "1.1.1", "2.1.2", "3.2.3")))
	}
	for range 9000 {
		c := m.call(7, m.id)
		if m.Intn(50) == 0 {
			c = m.ending()
		}
		pick(m, l...).call(c)
	}
	for _, b := range l {
		b.look()
	}
}

// empty: t with empty lists where it has nil ones.
func empty(t api.Term) api.Term {
	l := make([]api.Term, 0, len(t.L))
	for _, x := range t.L {
		l = append(l, empty(x))
	}
	t.L = l
	if t.B == nil {
		t.B = []byte{}
	}
	return t
}

// R3: an empty list is a nil one, in a reason too.
func TestR3Empty(t *testing.T) {
	for _, x := range samples() {
		l := tied(t).End(empty(x))
		if len(l) != 6 {
			t.Errorf("R3: End for %s with empty lists: %d signals", brief(show(x)), len(l))
		}
		for _, s := range l {
			if !sameTerm(s.T, x) {
				t.Errorf("R3: End for %s with empty lists: %s", brief(show(x)), brief(show(s.T)))
			}
		}
	}
	if l := tied(t).End(empty(api.Term{})); len(l) != 0 {
		t.Errorf("P22.4: End for nothing with empty lists: %d signals", len(l))
	}
}
