package dgram_test

import (
	"math"
	"testing"

	"rookery/api"
	"rookery/dgram"
)

func TestP9_2DeliverInAnyOrder(t *testing.T) {
	n := made(t, 3)
	must(t, "Send", n.Send(1, 2, []byte("a")))
	must(t, "Send", n.Send(1, 3, []byte("b")))
	must(t, "Send", n.Send(3, 2, []byte("c")))
	must(t, "Send", n.Send(1, 2, []byte("d")))
	must(t, "P9.2: Deliver(2)", n.Deliver(2))
	wantFlight(t, "P9.2: Deliver(2)", n, one{1, 2, 1, "a", false}, one{1, 3, 2, "b", false}, one{1, 2, 4, "d", false})
	must(t, "P9.2: Deliver(2)", n.Deliver(2))
	must(t, "P9.2: Deliver(0)", n.Deliver(0))
	wantFlight(t, "P9.2: three came", n, one{1, 3, 2, "b", false})
	wantBox(t, "P9.2: three came", n, 2, 3)
	wantBox(t, "P9.2: three came", n, 3, 0)
	must(t, "P9.2: Deliver(0)", n.Deliver(0))
	wantFlight(t, "P9.2: all came", n)
	wantBox(t, "P9.2: all came", n, 1, 0)
	wantTake(t, "P9.2: the order of coming", n, 2, one{3, 2, 3, "c", false})
	wantTake(t, "P9.2: the order of coming", n, 2, one{1, 2, 4, "d", false})
	wantTake(t, "P9.2: the order of coming", n, 2, one{1, 2, 1, "a", false})
	wantTake(t, "P9.2: the other box", n, 3, one{1, 3, 2, "b", false})
	wantLost(t, "P9.2: all came", n, 0)
}

// 63 are in the box, one more comes, the next one is lost; a box beside it has
// room.
func TestP9_2DeliverFull(t *testing.T) {
	n, m := boxed(t, 63)
	for range 3 {
		n.Send(3, 2, []byte("more"))
		m.Send(3, 2, []byte("more"))
		must(t, "P9.2: Deliver", n.Deliver(0))
		m.Deliver(0)
		wantState(t, "P9.2: about 64 in a box", n, m)
	}
	wantBox(t, "P9.2: a full box", n, 2, 64)
	wantLost(t, "P9.2: two more came", n, 2)
	n.Send(2, 1, []byte("other"))
	must(t, "P9.2: Deliver", n.Deliver(0))
	wantBox(t, "P9.2: the box beside", n, 1, 1)
	d, _, _ := n.Take(2)
	if d.N != 1 {
		t.Errorf("P9.3: the oldest in a full box: %d", d.N)
	}
	n.Send(1, 2, []byte("room"))
	must(t, "P9.2: Deliver", n.Deliver(0))
	wantBox(t, "P9.2: there was room again", n, 2, 64)
	wantLost(t, "P9.2: there was room again", n, 2)
}

func TestP9_2Drop(t *testing.T) {
	n, m := filled(t, 5)
	for k, i := range []int{4, 0, 1, 0, 0} {
		must(t, "P9.2: Drop", n.Drop(i))
		m.Drop(i)
		wantState(t, "P9.2: Drop", n, m)
		wantLost(t, "P9.2: Drop", n, k+1)
	}
	wantFlight(t, "P9.2: all dropped", n)
	wantNoTake(t, "P9.2: all dropped", n, 2, api.OK)
}

func TestP9_2Twin(t *testing.T) {
	n := made(t, 2)
	n.Send(1, 2, []byte("abcde"))
	n.Send(2, 1, []byte("x"))
	must(t, "P9.2: Twin(0)", n.Twin(0))
	a, x := one{1, 2, 1, "abcde", false}, one{2, 1, 2, "x", false}
	wantFlight(t, "P9.2: Twin(0)", n, a, x, a)
	must(t, "P9.2: Twin(2)", n.Twin(2))
	must(t, "P9.2: Twin(1)", n.Twin(1))
	wantFlight(t, "P9.2: a twin's twin", n, a, x, a, a, x)
	wantLost(t, "P9.2: Twin", n, 0)
	for range 3 {
		must(t, "P9.2: Deliver", n.Deliver(0))
	}
	wantTake(t, "P9.2: taken twice", n, 2, a)
	wantTake(t, "P9.2: taken twice", n, 2, a)
}

// 1023 are in flight, a twin of one more goes, the next one is lost.
func TestP9_2TwinFull(t *testing.T) {
	n, m := filled(t, 1023)
	for _, i := range []int{0, 1022, 1023} {
		must(t, "P9.2: Twin", n.Twin(i))
		m.Twin(i)
		wantState(t, "P9.2: about 1024 in flight", n, m)
	}
	wantLost(t, "P9.2: two twins more", n, 2)
	if l := n.Flight(); len(l) != 1024 || l[1023].N != 1 {
		t.Errorf("P9.2: %d in flight", len(l))
	}
	must(t, "P9.1: Send", n.Send(1, 3, nil))
	must(t, "P9.2: Drop", n.Drop(5))
	must(t, "P9.1: Send", n.Send(1, 3, nil))
	if d := n.Flight()[1023]; d.N != 1025 {
		t.Errorf("P9.1: a number behind twins and one that was lost: %d", d.N)
	}
}

func TestP9_2Spoil(t *testing.T) {
	const s = "abcdefg"
	rows := []struct {
		at   int
		mask uint32
		want string
	}{
		{0, 0x01020304, "\x60\x60\x60\x60efg"},
		{1, 0xff000000, "a\x9dcdefg"},
		{1, 0x000000ff, "abcd\x9afg"},
		{3, 0x0000ff00, "abcde\x99g"},
		{3, 0x01020304, "abcegec"},
		{4, 0x01020304, "abcdddd"},
		{5, 0x0102ffff, "abcdege"},
		{6, 0x01ffffff, "abcdeff"},
		{6, 0x00ffffff, s},
		{0, 0, s},
		{6, 0, s},
		{2, 0x80808080, "ab\xe3\xe4\xe5\xe6g"},
	}
	for _, r := range rows {
		n := made(t, 2)
		n.Send(1, 2, []byte("left"))
		n.Send(2, 1, []byte(s))
		n.Send(1, 2, []byte("right"))
		must(t, "P9.2: Spoil", n.Spoil(1, r.at, r.mask))
		wantFlight(t, "P9.2: Spoil", n, one{1, 2, 1, "left", false}, one{2, 1, 2, r.want, true}, one{1, 2, 3, "right", false})
		wantErr(t, "P9.2: Spoil again", n.Spoil(1, r.at, r.mask), api.ErrDgramTwice)
		wantFlight(t, "P9.2: Spoil again", n, one{1, 2, 1, "left", false}, one{2, 1, 2, r.want, true}, one{1, 2, 3, "right", false})
		must(t, "P9.2: Deliver", n.Deliver(1))
		wantTake(t, "P9.2: a spoilt one comes", n, 1, one{2, 1, 2, r.want, true})
		wantLost(t, "P9.2: Spoil", n, 0)
	}
}

func TestP9_2SpoilPlaces(t *testing.T) {
	for _, length := range []int{0, 1, 2, 3, 4, 5, 100, 1211, 1212} {
		for _, at := range []int{math.MinInt, -4, -1, 0, 1, 2, 3, length - 4, length - 3, length - 2, length - 1, length, length + 1, 1 << 32, math.MaxInt - 3, math.MaxInt} {
			n, m := made(t, 2), &model{nodes: 2}
			b := newMaker(int64(length)).bytes(length)
			n.Send(1, 2, b)
			m.Send(1, 2, b)
			want := api.OK
			if at < 0 || at >= length {
				want = api.ErrDgramPlace
			}
			if got := n.Spoil(0, at, 0x11223344); got != want {
				t.Errorf("P9.2: Spoil of %d bytes at %d: %d, not %d", length, at, got, want)
			}
			m.Spoil(0, at, 0x11223344)
			wantState(t, "P9.2: Spoil", n, m)
		}
	}
}

// A twin made ahead of the spoiling is sound and may be spoilt by itself; one
// made behind it is spoilt.
func TestP9_2SpoilTwins(t *testing.T) {
	n := made(t, 2)
	n.Send(1, 2, []byte("aaaaaa"))
	must(t, "P9.2: Twin", n.Twin(0))
	must(t, "P9.2: Spoil", n.Spoil(0, 0, 0x03000000))
	sound, left, right := one{1, 2, 1, "aaaaaa", false}, one{1, 2, 1, "baaaaa", true}, one{1, 2, 1, "aaaaac", true}
	wantFlight(t, "P9.2: one of twins is spoilt", n, left, sound)
	must(t, "P9.2: Twin", n.Twin(0))
	must(t, "P9.2: Twin", n.Twin(1))
	wantFlight(t, "P9.2: a spoilt one's twin", n, left, sound, left, sound)
	wantErr(t, "P9.2: Spoil of a spoilt one's twin", n.Spoil(2, 1, 1), api.ErrDgramTwice)
	must(t, "P9.2: Spoil of a sound one's twin", n.Spoil(1, 5, 0x02000000))
	wantFlight(t, "P9.2: both of twins are spoilt", n, left, right, left, sound)
	wantErr(t, "P9.2: Spoil of one that is spoilt", n.Spoil(0, 0, 0), api.ErrDgramTwice)
	for _, want := range []one{left, right, left, sound} {
		must(t, "P9.2: Deliver", n.Deliver(0))
		wantTake(t, "P9.2: twins come", n, 2, want)
	}
}

// Of none of these is there an i-th one.
func TestP9_2None(t *testing.T) {
	for _, count := range []int{0, 1, 2, 7, 1023, 1024} {
		for _, i := range []int{math.MinInt, -1024, -1, count, count + 1, 1024, 1025, 1 << 32, math.MaxInt} {
			n, m := filled(t, count)
			wantErr(t, "P9.2: Deliver of none", n.Deliver(i), api.ErrDgramNone)
			wantErr(t, "P9.2: Drop of none", n.Drop(i), api.ErrDgramNone)
			wantErr(t, "P9.2: Twin of none", n.Twin(i), api.ErrDgramNone)
			wantErr(t, "P9.2: Spoil of none", n.Spoil(i, 0, 1), api.ErrDgramNone)
			wantState(t, "P9.2: nothing was done", n, m)
		}
	}
}

// At the first one and the last one, of one and of many.
func TestP9_2FirstAndLast(t *testing.T) {
	for _, count := range []int{1, 2, 7, 1024} {
		for _, i := range []int{0, count - 1} {
			acts := []struct {
				name string
				n    func(*dgram.Net) api.Errno
				m    func(*model) api.Errno
			}{
				{"Deliver", func(n *dgram.Net) api.Errno { return n.Deliver(i) }, func(m *model) api.Errno { return m.Deliver(i) }},
				{"Drop", func(n *dgram.Net) api.Errno { return n.Drop(i) }, func(m *model) api.Errno { return m.Drop(i) }},
				{"Twin", func(n *dgram.Net) api.Errno { return n.Twin(i) }, func(m *model) api.Errno { return m.Twin(i) }},
				{"Spoil", func(n *dgram.Net) api.Errno { return n.Spoil(i, 2, 5) }, func(m *model) api.Errno { return m.Spoil(i, 2, 5) }},
			}
			for _, a := range acts {
				n, m := filled(t, count)
				must(t, "P9.2: "+a.name, a.n(n))
				must(t, "the model's "+a.name, a.m(m))
				wantState(t, "P9.2: "+a.name, n, m)
				wantEmptied(t, "P9.2: "+a.name, n, m)
			}
		}
	}
}
