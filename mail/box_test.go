package mail_test

import (
	"fmt"
	"maps"
	"slices"
	"strconv"
	"strings"
	"testing"

	"rookery/api"
	"rookery/mail"
	"rookery/term"
)

// The chapter's examples.
func TestP21_1Example(t *testing.T) {
	play(t, "put 1; put 2; next; take > 2; peek > 1")
	b := mail.New()
	if b.Put(term.Int(1)) != api.OK || b.Put(term.Int(2)) != api.OK || b.Next() != api.OK {
		t.Fatal("P21.1: Put 1, Put 2, Next: not OK")
	}
	if x, e := b.Take(); e != api.OK || !sameTerm(x, term.Int(2)) {
		t.Errorf("P21.1: Take: %v, %d; want 2", x, e)
	}
	if x, ok := b.Peek(); !ok || !sameTerm(x, term.Int(1)) {
		t.Errorf("P21.1: Peek: %v, %v; want 1", x, ok)
	}
}

// The chapter's numbers of errors.
func TestP21_1Numbers(t *testing.T) {
	if api.ErrNil != 1 || api.ErrArg != 2 || api.ErrMailFull != 210 || api.ErrMailNone != 211 || api.MaxMail != 256 {
		t.Error("P21.1: an error's number, or the limit, is another one")
	}
}

func TestP21_1New(t *testing.T) {
	play(t, "peek > none; next > none; take > none; again > done; len > 0; all > ; peek > none; next > none; take > none")
	if mail.New() == mail.New() {
		t.Error("P21.1: New answers one box twice")
	}
}

// Each right term is put as it is, and comes out so.
func TestP21_1PutRight(t *testing.T) {
	b := newBoth(t)
	for _, x := range rightTerms() {
		if got := b.call("put", x); got != "ok" {
			t.Errorf("P21.1: Put of %s: %s", brief(show(x)), got)
		}
		b.look()
	}
	for _, x := range rightTerms() {
		if got := b.call("peek", x); got != show(x) {
			t.Errorf("P21.1: Peek: %s; want %s", brief(got), brief(show(x)))
		}
		if got := b.call("take", x); got != show(x) {
			t.Errorf("P21.1: Take: %s; want %s", brief(got), brief(show(x)))
		}
	}
}

// Each fault of layer 2 is ErrArg, with any room, with some passed over; and
// nothing has changed.
func TestP21_1PutWrong(t *testing.T) {
	for fault, l := range wrongTerms() {
		for _, x := range l {
			if e := term.Check(x); e != fault {
				t.Fatalf("P2.2: Check of a wrong term: %d; want %d", e, fault)
			}
			for _, n := range []int{0, 1, 3, 255, 256} {
				for _, passed := range []int{0, 1, n} {
					wantRefused(t, x, n, passed, api.ErrArg)
				}
			}
		}
	}
}

// wantRefused: Put of x into a box of the messages 1 .. n, so many of them
// passed over, is refused, and changes nothing.
func wantRefused(t *testing.T, x api.Term, n, passed int, want api.Errno) {
	t.Helper()
	b := mail.New()
	for i := range n {
		b.Put(term.Int(int64(i + 1)))
	}
	for range passed {
		b.Next()
	}
	was, wasPeek := showAll(b.All()), told(b, "peek", x)
	for range 2 {
		if e := b.Put(x); e != want {
			t.Errorf("P21.1: Put of %d to %d messages: %d; want %d", x.Kind, n, e, want)
		}
	}
	if b.Len() != n || showAll(b.All()) != was || was != numbered(1, n) || told(b, "peek", x) != wasPeek {
		t.Errorf("R2: a Put that was refused has changed something: %s, %s; first %s, %s", was, wasPeek, showAll(b.All()), told(b, "peek", x))
	}
}

// Of both errors ErrArg is first; without a fault a full box is ErrMailFull.
func TestR1PutArgAheadOfFull(t *testing.T) {
	for _, l := range wrongTerms() {
		for _, x := range l {
			wantRefused(t, x, 256, 0, api.ErrArg)
			wantRefused(t, x, 256, 256, api.ErrArg)
		}
	}
	for _, x := range rightTerms() {
		wantRefused(t, x, 256, 0, api.ErrMailFull)
		wantRefused(t, x, 256, 100, api.ErrMailFull)
		wantRefused(t, x, 256, 256, api.ErrMailFull)
	}
}

// The 257th is refused, also where all are passed over; behind a Take there is
// room again, for one.
func TestP21_1Full(t *testing.T) {
	play(t, filled(256)+"put 257 > full; len > 256; all > "+numbered(1, 256)+"; take > 1; len > 255; put 257 > ok; put 258 > full; all > "+numbered(2, 257))
	play(t, filled(256)+"256 times next > ok; put 257 > full; next > none; again > done; put 257 > full; take > 1; put 257 > ok; put 258 > full")
	play(t, filled(256)+"255 times next > ok; take > 256; put a > ok; put b > full; all > "+numbered(1, 255)+",a")
	play(t, filled(256)+"256 times take; 256 times put x > ok; put x > full; len > 256")
	play(t, filled(255)+"put 256 > ok; 10 times put 256 > full; take > 1; take > 2; put 1 > ok; put 2 > ok; put 3 > full")
}

// What is put is last, behind those that are passed over too, and is passed
// over only by Next.
func TestP21_1PutIsLast(t *testing.T) {
	play(t, "put 1; put 2; all > 1,2; put 3; all > 1,2,3; peek > 1")
	play(t, "put 1; put 2; next; put 3; all > 1,2,3; peek > 2; next > ok; peek > 3; next > ok; peek > none")
	play(t, "put 1; put 2; next; next; peek > none; put 3; peek > 3; all > 1,2,3; take > 3; peek > 1; all > 1,2")
	play(t, "put 1; next; put 1; peek > 1; next > ok; next > none; len > 2")
	play(t, "put b; put a; put b; all > b,a,b; take > b; take > a; take > b; take > none")
}

func TestP21_1Peek(t *testing.T) {
	play(t, "peek > none; put {1,a} > ok; peek > {1,a}; peek > {1,a}; next > ok; peek > none; peek > none")
	play(t, filled(4)+"peek > 1; next > ok; peek > 2; next > ok; peek > 3; peek > 3; next > ok; peek > 4; next > ok; peek > none; len > 4")
}

func TestP21_1Next(t *testing.T) {
	play(t, "next > none; next > none; put 1; next > ok; next > none; next > none; put 2; peek > 2; next > ok; next > none; len > 2; all > 1,2")
	play(t, filled(256)+"256 times next > ok; 3 times next > none; peek > none; len > 256; all > "+numbered(1, 256))
}

// The message taken out of any place; none is passed over behind it.
func TestP21_1Take(t *testing.T) {
	play(t, filled(3)+"take > 1; all > 2,3; peek > 2; len > 2")
	play(t, filled(3)+"next; take > 2; all > 1,3; peek > 1; next > ok; peek > 3; next > ok; next > none")
	play(t, filled(3)+"next; next; take > 3; all > 1,2; peek > 1; take > 1; take > 2; take > none; len > 0")
	play(t, "put 1; take > 1; take > none; len > 0; put 2; peek > 2; take > 2")
	for at := range 256 {
		b := newBoth(t)
		for i := range 256 {
			b.call("put", term.Int(int64(i)))
		}
		for range at {
			b.call("next", api.Term{})
		}
		if got := b.call("take", api.Term{}); got != strconv.Itoa(at) {
			t.Errorf("P21.1: Take behind %d Next: %s", at, got)
		}
		b.look()
		b.call("next", api.Term{})
		b.look()
	}
}

// A Take that fails changes nothing: those that are passed over stay so.
func TestP21_1TakeNone(t *testing.T) {
	play(t, "take > none; put 1; next; take > none; take > none; peek > none; next > none; len > 1; all > 1; put 2; peek > 2; take > 2; peek > 1; take > 1; take > none")
	play(t, filled(256)+"256 times next; take > none; peek > none; put 1 > full; all > "+numbered(1, 256)+"; again; take > 1")
	for n := range 6 {
		b := newBoth(t)
		for i := range n {
			b.call("put", term.Int(int64(i)))
			b.call("next", api.Term{})
		}
		if got := b.call("take", api.Term{}); got != "none" {
			t.Errorf("P21.1: Take with all %d passed over: %s", n, got)
		}
		b.look()
		b.call("put", term.Atom("new"))
		if got := b.call("peek", api.Term{}); got != "new" {
			t.Errorf("P21.1: Peek behind a Take that failed: %s", got)
		}
	}
}

func TestP21_1Again(t *testing.T) {
	play(t, "again > done; peek > none; next > none; put 1; peek > 1")
	play(t, filled(3)+"again; peek > 1; all > 1,2,3; next; next; peek > 3; again; peek > 1; next; peek > 2; again; again; peek > 1; take > 1; all > 2,3")
	play(t, filled(3)+"next; next; next; peek > none; again; peek > 1; next; peek > 2; next; peek > 3; next; next > none; len > 3")
	play(t, filled(256)+"256 times next > ok; again; 256 times next > ok; next > none; again; peek > 1")
}

func TestP21_2LenAndAll(t *testing.T) {
	play(t, "len > 0; all > ; put x; len > 1; all > x; next; len > 1; all > x; put [y]; len > 2; all > x,[y]; take > [y]; all > x; take > x; len > 0; all > ")
	play(t, filled(256)+"len > 256; all > "+numbered(1, 256)+"; 100 times next; len > 256; all > "+numbered(1, 256)+"; take > 101; len > 255; all > "+numbered(1, 100)+","+numbered(102, 256))
	for n := range 257 {
		for _, passed := range []int{0, n / 2, n} {
			b := mail.New()
			for i := range n {
				b.Put(term.Int(int64(i + 1)))
			}
			for range passed {
				b.Next()
			}
			if b.Len() != n || len(b.All()) != n || showAll(b.All()) != numbered(1, n) {
				t.Errorf("P21.2: of %d messages: Len %d, All %s", n, b.Len(), showAll(b.All()))
			}
		}
	}
}

// Len, All and Peek change nothing, however often they are asked.
func TestP21_2LooksChangeNothing(t *testing.T) {
	for n := range 5 {
		for passed := range n + 1 {
			b := newBoth(t)
			for i := range n {
				b.call("put", term.Int(int64(i)))
			}
			for range passed {
				b.call("next", api.Term{})
			}
			for range 5 {
				b.look()
			}
			b.call("put", term.Atom("a"))
			b.look()
			b.call("take", api.Term{})
			b.look()
		}
	}
}

// Of a nil box: ErrNil, false, 0, nothing, whatever is put.
func TestP21_2Nil(t *testing.T) {
	var b *mail.Box
	all := slices.Concat(slices.Collect(maps.Values(wrongTerms()))...)
	for range 2 {
		for _, x := range append(all, rightTerms()...) {
			if e := b.Put(x); e != api.ErrNil {
				t.Errorf("P21.2: Put of nil: %d; want ErrNil", e)
			}
		}
		for call, want := range map[string]string{"next": "nil", "take": "nil", "peek": "none", "len": "0", "all": "", "again": "done"} {
			if got := told(b, call, api.Term{}); got != want {
				t.Errorf("P21.2: %s of nil: %s; want %s", call, got, want)
			}
		}
		if l := b.All(); len(l) != 0 {
			t.Errorf("P21.2: All of nil: %d messages", len(l))
		}
	}
}

// The greatest messages that may be, 256 of them.
func TestP21_1GreatMessages(t *testing.T) {
	b := mail.New()
	great := rightTerms()
	bytes := strings.Repeat("x", 4093)
	for i := range 256 {
		x := read(fmt.Sprintf("{%d,%q}", i, bytes))
		if i%64 == 7 {
			x = great[i%len(great)]
		}
		if e := b.Put(x); e != api.OK {
			t.Fatalf("P21.1: Put of a great message: %d", e)
		}
	}
	if n := len(b.All()); n != 256 {
		t.Errorf("P21.2: All: %d", n)
	}
	for i := range 256 {
		want := fmt.Sprintf("{%d,%q}", i, bytes)
		if i%64 == 7 {
			want = show(great[i%len(great)])
		}
		if got := told(b, "take", api.Term{}); got != want {
			t.Fatalf("P21.1: Take of the great message %d: %s", i, brief(got))
		}
	}
}

// P1: what is great without end, or holds itself, is no harm.
func TestP1Anything(t *testing.T) {
	broad := read("1")
	for range 5 {
		broad = api.Term{Kind: api.KList, L: slices.Repeat([]api.Term{broad}, 256)}
	}
	all := []api.Term{endless(), {Kind: api.KTuple, L: []api.Term{endless(), endless()}}, doubled(64), broad, {Kind: -1 << 63, L: slices.Repeat([]api.Term{endless()}, 300)}, {Kind: api.KBytes, B: make([]byte, 1<<22)}, {Kind: api.KBytes, L: []api.Term{doubled(64)}},
		{Kind: api.KAtom, S: strings.Repeat("a", 1<<22)}, {Kind: api.KList, L: make([]api.Term, 1<<20)}}
	nested := api.Term{}
	for range 1<<16 - 1 {
		nested = api.Term{Kind: api.KList, L: []api.Term{nested}}
	}
	for _, x := range append(all, nested) {
		for _, n := range []int{0, 2, 256} {
			wantRefused(t, x, n, n/2, api.ErrArg)
		}
		var none *mail.Box
		if e := none.Put(x); e != api.ErrNil {
			t.Errorf("P21.2: Put of nil: %d; want ErrNil", e)
		}
	}
}
