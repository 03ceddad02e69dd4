package mail_test

import (
	"runtime"
	"slices"
	"strings"
	"sync"
	"testing"
	"unsafe"
	"weak"

	"rookery/api"
	"rookery/mail"
)

// roomy: t anew, with spare room in which something stands.
func roomy(t api.Term) api.Term {
	t.S = strings.Clone(t.S)
	t.B = append(append(make([]byte, 0, len(t.B)+8), t.B...), "spare"...)[:len(t.B)]
	l := make([]api.Term, 0, len(t.L)+2)
	for _, x := range t.L {
		l = append(l, roomy(x))
	}
	t.L = append(l, read("spare"))[:len(l)]
	return t
}

// whole: t with all that stands in its spare room.
func whole(t api.Term) api.Term {
	n := len(t.L)
	t.B, t.L = slices.Clone(t.B[:cap(t.B)]), slices.Clone(t.L[:cap(t.L)])
	for i := range n {
		t.L[i] = whole(t.L[i])
	}
	return t
}

// spoil changes all memory of t, its spare room included.
func spoil(t api.Term) {
	for i := range t.B[:cap(t.B)] {
		t.B[:cap(t.B)][i] ^= 0x55
	}
	for _, x := range t.L {
		spoil(x)
	}
	for i := range t.L[:cap(t.L)] {
		t.L[:cap(t.L)][i] = api.Term{Kind: 77, N: 5}
	}
}

func spoilAll(l []api.Term) { spoil(api.Term{L: l}) }

// samples: terms of all kinds, and some that hold one list, or one piece of
// bytes, in two places.
func samples() []api.Term {
	m := newMaker(7)
	out := rightTerms()
	for range 300 {
		x := m.term(4)
		out = append(out, x, api.Term{Kind: api.KList, L: []api.Term{x, x, {Kind: api.KTuple, L: []api.Term{x}}}})
	}
	return out
}

// R4: what is put is not changed, its spare room included, by any later call.
func TestR4NothingIsChanged(t *testing.T) {
	b := mail.New()
	var given, was []api.Term
	for i, x := range samples() {
		x = roomy(x)
		given, was = append(given, x), append(was, whole(x))
		if b.Put(x) != api.OK || i%3 == 0 {
			b.Take()
		}
		if i%5 == 0 {
			b.Next()
			b.Put(api.Term{Kind: 99, L: given[:1:1]})
		}
		b.Peek()
		b.All()
	}
	for i, x := range given {
		if !sameTerm(whole(x), was[i]) {
			t.Errorf("R4: what was put is changed: %s", brief(show(x)))
		}
	}
}

// A wrong term is not changed either.
func TestR4NothingWrongIsChanged(t *testing.T) {
	for fault, l := range wrongTerms() {
		for i, x := range l {
			if x.Kind == api.KList && fault == api.ErrTermDeep && i == len(l)-1 {
				continue // it holds itself
			}
			x = roomy(x)
			was := whole(x)
			for _, n := range []int{1, 256} {
				wantRefused(t, x, n, 0, api.ErrArg)
			}
			if !sameTerm(whole(x), was) {
				t.Errorf("R4: what was refused is changed: of kind %d", x.Kind)
			}
		}
	}
}

// R4: nothing that is handed in is kept, and nothing that was answered is
// shared: a box whose memory outside is spoilt at each step goes on as a row.
func TestR4NothingIsKept(t *testing.T) {
	l := samples()
	m := newMaker(8)
	for range 150 {
		b, r := mail.New(), row{}
		for range 150 {
			x := roomy(pick(m, l[24:]...))
			call := m.call(4)
			if got, want := spoiling(b, call, x), r.told(call, x); got != want {
				t.Fatalf("R4: %s of what was spoilt outside: %s; want %s", call, brief(got), brief(want))
			}
			spoil(x)
		}
	}
}

// spoiling is told, and spoils what is answered.
func spoiling(b *mail.Box, call string, x api.Term) string {
	switch call {
	case "peek":
		if t, ok := b.Peek(); ok {
			out := show(t)
			spoil(t)
			return out
		}
	case "take":
		t, e := b.Take()
		if e == api.OK {
			out := show(t)
			spoil(t)
			return out
		}
		return errorText(e)
	case "all":
		l := b.All()
		out := showAll(l)
		spoilAll(l)
		for i := range l[:cap(l)] {
			l[:cap(l)][i] = api.Term{Kind: 78}
		}
		return out
	}
	return told(b, call, x)
}

// R4: an answer may be appended to without harm, in all its lists.
func TestR4Appended(t *testing.T) {
	b := mail.New()
	for range 5 {
		b.Put(read(`{[1,"x"],[a],"bytes"}`))
	}
	was := showAll(b.All())
	for range 3 {
		l := b.All()
		x, _ := b.Peek()
		_ = append(l[:2], read("other"))
		_ = append(x.L[:1], read("other"))
		_ = append(x.L[0].L[1].B, "other"...)
		_ = append(l[4].L[0].L, read("other"))
	}
	if got := showAll(b.All()); got != was {
		t.Errorf("R4: All: %s; first %s", got, was)
	}
}

// block: a piece of memory, from its first byte up to behind its last one.
type block struct {
	from, to uintptr
	what     string
}

type blocks []block

func (b *blocks) add(what string, at unsafe.Pointer, size uintptr) {
	if size > 0 {
		*b = append(*b, block{uintptr(at), uintptr(at) + size, what})
	}
}

func addList[T any](b *blocks, what string, l []T) {
	var x T
	b.add(what, unsafe.Pointer(unsafe.SliceData(l)), uintptr(cap(l))*unsafe.Sizeof(x))
}

func (b *blocks) term(what string, x api.Term) {
	b.add(what+": a name", unsafe.Pointer(unsafe.StringData(x.S)), uintptr(len(x.S)))
	addList(b, what+": bytes", x.B)
	b.terms(what, x.L)
}

func (b *blocks) terms(what string, l []api.Term) {
	addList(b, what+": elements", l)
	for _, x := range l {
		b.term(what, x)
	}
}

// overlap: two of the blocks that have a byte in common.
func overlap(l blocks) (string, bool) {
	slices.SortFunc(l, func(a, b block) int { return int(a.from) - int(b.from) })
	for i := 1; i < len(l); i++ {
		if l[i].from < l[i-1].to {
			return l[i-1].what + " and " + l[i].what, true
		}
	}
	return "", false
}

// R4: answers share no memory with what was put, with another answer, or within
// themselves. (What Take answers stood in the box till then.)
func TestR4AnswersAreNewMemory(t *testing.T) {
	inner := roomy(read(`[{1,"bytes"},atom]`))
	for _, x := range append(samples(), api.Term{Kind: api.KTuple, L: []api.Term{inner, inner, {Kind: api.KList, L: inner.L}}}) {
		var all blocks
		b := mail.New()
		for range 3 {
			if e := b.Put(x); e != api.OK {
				t.Fatalf("P21.1: Put of %s: %d", brief(show(x)), e)
			}
		}
		var keep []any
		for range 2 {
			p, _ := b.Peek()
			l := b.All()
			all.term("Peek", p)
			all.terms("All", l)
			keep = append(keep, p, l)
			b.Next()
		}
		for range 3 {
			p, _ := b.Peek()
			y, e := b.Take()
			if e != api.OK || !sameTerm(x, y) {
				t.Errorf("P21.1: Take of %s: %s, %d", brief(show(x)), brief(show(y)), e)
			}
			all.term("Peek ahead of Take", p)
			all.term("Take", y)
			keep = append(keep, p, y)
		}
		if what, ok := overlap(all); ok {
			t.Errorf("R4: of %s: memory is shared by %s", brief(show(x)), what)
		}
		var given blocks
		given.term("what was put", x)
		for _, g := range given {
			if what, ok := overlap(append(slices.Clone(all), g)); ok {
				t.Errorf("R4: of %s: memory is shared by %s", brief(show(x)), what)
			}
		}
		runtime.KeepAlive(keep)
		runtime.KeepAlive(x)
	}
}

// What was taken is kept by the box no more, nor what was refused.
func TestR4WhatIsTakenIsGone(t *testing.T) {
	b := mail.New()
	for range 20 {
		b.Put(api.Term{Kind: api.KBytes, B: make([]byte, 2000)})
	}
	var gone []weak.Pointer[byte]
	for i := range 20 {
		for range (7 * i) % (20 - i) {
			b.Next()
		}
		x, e := b.Take()
		if e != api.OK {
			t.Fatalf("P21.1: Take: %d", e)
		}
		gone = append(gone, weak.Make(&x.B[0]))
	}
	for range 3 {
		runtime.GC()
	}
	for i, p := range gone {
		if p.Value() != nil {
			t.Errorf("R4: the message that was taken as number %d is kept", i)
		}
	}
	runtime.KeepAlive(b)
}

// course: all that one box answers to a script that the seed tells.
func course(seed int64) string {
	m := newMaker(seed)
	b := mail.New()
	out := ""
	for puts := range 9 {
		for range 15 {
			x := m.term(3)
			if m.Intn(9) == 0 {
				x = m.spoilt(x)
			}
			out += told(b, m.call(puts), x) + "; "
		}
	}
	return out
}

// R6, R9: what one box answers hangs on nothing that another one is told, one
// behind the other or at the same time.
func TestR6TheSameAgain(t *testing.T) {
	var want []string
	for seed := range int64(150) {
		want = append(want, course(seed))
	}
	var group sync.WaitGroup
	for range 4 {
		group.Go(func() {
			for seed, was := range slices.Backward(want) {
				if got := course(int64(seed)); got != was {
					t.Errorf("R6: %s; then %s", brief(was), brief(got))
				}
			}
		})
	}
	group.Wait()
}

// R6: many boxes that are used by turns don't touch one another.
func TestR6SideBySide(t *testing.T) {
	m := newMaker(9)
	var l []*both
	for range 30 {
		l = append(l, newBoth(t))
	}
	for range 6000 {
		pick(m, l...).call(m.call(5), m.term(2))
	}
	for _, b := range l {
		b.look()
	}
}

// empty: t with empty lists where it has nil ones.
func empty(t api.Term) api.Term {
	l := make([]api.Term, 0, len(t.L))
	for _, x := range t.L {
		l = append(l, empty(x))
	}
	t.L = l
	if t.B == nil {
		t.B = []byte{}
	}
	return t
}

// R3: an empty list is a nil one, wherever it is handed in.
func TestR3Empty(t *testing.T) {
	b := newBoth(t)
	for _, x := range samples() {
		if b.row.at() >= 0 {
			b.call("take", api.Term{})
		}
		if got := b.call("put", empty(x)); got != "ok" {
			t.Errorf("R3: Put of %s with empty lists: %s", brief(show(x)), got)
		}
		if got := b.call("peek", api.Term{}); got != show(x) {
			t.Errorf("R3: Peek of %s with empty lists: %s", brief(show(x)), brief(got))
		}
	}
	if e := mail.New().Put(empty(api.Term{})); e != api.ErrArg {
		t.Errorf("P21.1: Put of nothing with empty lists: %d", e)
	}
}
