package dgram_test

import (
	"math"
	"slices"
	"testing"

	"rookery/api"
	"rookery/dgram"
)

// roomy: b anew, with spare room in which something stands.
func roomy(b []byte) []byte {
	room := append(append(make([]byte, 0, len(b)+16), b...), "spare room, 16 b"...)
	return room[:len(b)]
}

// scramble writes into all memory of b, its spare room included.
func scramble(b []byte) {
	room := b[:cap(b)]
	for i := range room {
		room[i] ^= 0x55
	}
}

// scrambleAll writes into all memory of l and of its bytes.
func scrambleAll(l []api.Datagram) {
	room := l[:cap(l)]
	for i := range room {
		scramble(room[i].B)
		room[i] = api.Datagram{From: -9, To: -9, N: 99, B: []byte("wrong"), Spoilt: true}
	}
}

// unchanged: is what was made of b by roomy still that, in its spare room too?
func unchanged(given, b []byte) bool {
	return len(given) == len(b) && slices.Equal(given[:cap(given)], roomy(b)[:cap(given)])
}

// ErrNil is first, then the nodes, then the length.
func TestR1Send(t *testing.T) {
	long := make([]byte, 1213)
	var none *dgram.Net
	n := made(t, 2)
	for _, ends := range [][2]int{{0, 1}, {1, 0}, {1, 1}, {-1, 2}, {3, 1}, {1, 3}, {0, 0}, {3, 3}} {
		wantErr(t, "R1: Send to no node of a nil net", none.Send(ends[0], ends[1], long), api.ErrNil)
		wantErr(t, "R1: Send to no node of too many bytes", n.Send(ends[0], ends[1], long), api.ErrDgramNode)
	}
	full, m := filled(t, 1024)
	wantErr(t, "R1: Send of too many bytes with 1024 in flight", full.Send(1, 2, long), api.ErrDgramLong)
	wantErr(t, "R1: Send to no node with 1024 in flight", full.Send(1, 1, long), api.ErrDgramNode)
	wantState(t, "R2: what was refused is not lost", full, m)
}

// ErrDgramNone is first, then that it is spoilt already, then the place.
func TestR1Spoil(t *testing.T) {
	n := made(t, 2)
	wantErr(t, "R1: Spoil of none at no place", n.Spoil(0, -1, 1), api.ErrDgramNone)
	n.Send(1, 2, []byte("abc"))
	n.Send(1, 2, nil)
	must(t, "P9.2: Spoil", n.Spoil(0, 2, 0))
	for _, at := range []int{math.MinInt, -1, 0, 2, 3, math.MaxInt} {
		wantErr(t, "R1: Spoil again, at any place", n.Spoil(0, at, 1), api.ErrDgramTwice)
		wantErr(t, "R1: Spoil of no bytes", n.Spoil(1, at, 1), api.ErrDgramPlace)
		wantErr(t, "R1: Spoil of none", n.Spoil(2, at, 1), api.ErrDgramNone)
	}
	wantFlight(t, "R2: nothing changed", n, one{1, 2, 1, "abc", true}, one{1, 2, 2, "", false})
}

// What was refused leaves the net as it was, numbers and room included.
func TestR2NothingChanged(t *testing.T) {
	n, m := boxed(t, 64)
	n.Send(1, 2, []byte("a"))
	m.Send(1, 2, []byte("a"))
	for range 2000 {
		n.Send(1, 2, make([]byte, 1213))
		n.Send(3, 3, nil)
		n.Deliver(1)
		n.Drop(-1)
		n.Twin(1)
		n.Spoil(0, 1, 1)
		n.Spoil(1, 0, 1)
		n.Wipe(0)
		n.Take(4)
	}
	wantState(t, "R2: much was refused", n, m)
	must(t, "P9.2: Spoil", n.Spoil(0, 0, 0))
	m.Spoil(0, 0, 0)
	n.Send(2, 3, []byte("b"))
	m.Send(2, 3, []byte("b"))
	wantState(t, "R2: much was refused", n, m)
	wantEmptied(t, "R2: much was refused", n, m)
}

func TestR3Lists(t *testing.T) {
	n := made(t, 2)
	for i, b := range [][]byte{nil, {}, roomy(nil)} {
		must(t, "R3: Send of no bytes", n.Send(1, 2, b))
		wantErr(t, "R3: Spoil of no bytes", n.Spoil(i, 0, 1), api.ErrDgramPlace)
	}
	wantFlight(t, "R3: no bytes", n, one{1, 2, 1, "", false}, one{1, 2, 2, "", false}, one{1, 2, 3, "", false})
	for i := range 3 {
		n.Deliver(0)
		wantTake(t, "R3: no bytes", n, 2, one{1, 2, uint64(i + 1), "", false})
	}
}

// What was handed in stays as it is, whatever becomes of the datagram, and
// spoiling it leaves the datagram.
func TestR4Handed(t *testing.T) {
	r := newMaker(20)
	for i := range 300 {
		b := r.some()
		given := roomy(b)
		n := made(t, 2)
		must(t, "P9.1: Send", n.Send(1, 2, given))
		n.Twin(0)
		n.Spoil(0, 0, 0xffffffff)
		n.Deliver(1)
		if !unchanged(given, b) {
			t.Fatalf("R4: what was handed in was changed (%d)", i)
		}
		scramble(given)
		wantTake(t, "R4: what was handed in is kept", n, 2, one{1, 2, 1, string(b), false})
		long := roomy(make([]byte, 1213))
		n.Send(1, 2, long)
		if !unchanged(long, make([]byte, 1213)) {
			t.Fatalf("R4: what was refused was changed (%d)", i)
		}
	}
}

// Spoiling one answer leaves the other answers, and the net.
func TestR4AnswersApart(t *testing.T) {
	r := newMaker(21)
	for range 100 {
		n, m := made(t, 3), &model{nodes: 3}
		k := &book{taken: map[uint64]int{}}
		for range 60 {
			k.act(t, r, n, m)
		}
		first, second := n.Flight(), n.Flight()
		scrambleAll(first)
		if !slices.Equal(plainAll(second), m.flight) {
			t.Fatal("R4: two answers of Flight share memory")
		}
		wantState(t, "R4: an answer of Flight was spoilt", n, m)
		wantTakesApart(t, n, m)
	}
}

// wantTakesApart: twins come, are taken, and spoilt by who took them; then the
// net goes on.
func wantTakesApart(t *testing.T, n *dgram.Net, m *model) {
	t.Helper()
	for range 3 {
		n.Send(1, 2, []byte("twins"))
		m.Send(1, 2, []byte("twins"))
		n.Twin(len(m.flight) - 1)
		m.Twin(len(m.flight) - 1)
		n.Deliver(len(m.flight) - 1)
		m.Deliver(len(m.flight) - 1)
	}
	seen := n.Flight()
	for range len(m.boxes[2]) {
		want, _, _ := m.Take(2)
		d, _, _ := n.Take(2)
		if plain(d) != want {
			t.Fatalf("R4: Take: %v, not %v", plain(d), want)
		}
		scramble(d.B)
		n.Send(2, 3, []byte("next"))
		m.Send(2, 3, []byte("next"))
		n.Deliver(len(m.flight) - 1)
		m.Deliver(len(m.flight) - 1)
	}
	if !slices.Equal(plainAll(seen), m.flight) {
		t.Fatal("R4: what Take answered shares memory with what Flight did")
	}
	wantState(t, "R4: what was taken was spoilt", n, m)
	wantEmptied(t, "R4: what was taken was spoilt", n, m)
}

// An answer of Flight tells what was in flight then, whatever comes later.
func TestR4FlightStays(t *testing.T) {
	n, m := filled(t, 20)
	was, want := n.Flight(), m.flight
	n.Spoil(0, 0, 0xffffffff)
	n.Deliver(1)
	n.Drop(3)
	n.Twin(0)
	n.Wipe(2)
	n.Send(3, 1, []byte("new"))
	if !slices.Equal(plainAll(was), want) {
		t.Error("R4: an answer of Flight changed later")
	}
}

func TestR5Nil(t *testing.T) {
	var n *dgram.Net
	for _, x := range []int{math.MinInt, -1, 0, 1, 2, 64, 65, math.MaxInt} {
		wantErr(t, "R5: Send", n.Send(x, 1, nil), api.ErrNil)
		wantErr(t, "R5: Send", n.Send(1, 2, []byte("a")), api.ErrNil)
		wantErr(t, "R5: Deliver", n.Deliver(x), api.ErrNil)
		wantErr(t, "R5: Drop", n.Drop(x), api.ErrNil)
		wantErr(t, "R5: Twin", n.Twin(x), api.ErrNil)
		wantErr(t, "R5: Spoil", n.Spoil(x, x, 1), api.ErrNil)
		wantErr(t, "R5: Wipe", n.Wipe(x), api.ErrNil)
		wantNoTake(t, "R5: Take", n, x, api.ErrNil)
		wantBox(t, "R5: Box", n, x, 0)
	}
	wantFlight(t, "R5: Flight", n)
	wantLost(t, "R5: Lost", n, 0)
}

// Two nets are told the same things, a third one other things in between.
func TestR6NothingElse(t *testing.T) {
	for seed := range int64(20) {
		a, b, c := newMaker(seed), newMaker(seed), newMaker(seed+500)
		n, other, third := made(t, 4), made(t, 4), made(t, 4)
		m, mo, mt := &model{nodes: 4}, &model{nodes: 4}, &model{nodes: 4}
		k, ko, kt := &book{taken: map[uint64]int{}}, &book{taken: map[uint64]int{}}, &book{taken: map[uint64]int{}}
		for range 200 {
			k.act(t, a, n, m)
			kt.act(t, c, third, mt)
			ko.act(t, b, other, mo)
		}
		if !slices.Equal(plainAll(n.Flight()), plainAll(other.Flight())) || n.Lost() != other.Lost() {
			t.Errorf("R6: two nets that were told the same are not one (%d)", seed)
		}
		wantState(t, "R6: told the same", other, m)
		wantEmptied(t, "R6: told the same", other, m)
		wantState(t, "R6: told other things", third, mt)
	}
}

// Every call, at all kinds of arguments.
func TestP1Anything(t *testing.T) {
	numbers := []int{math.MinInt, math.MinInt32, -65, -1, 0, 1, 2, 3, 63, 64, 65, 1023, 1024, math.MaxInt32, math.MaxInt}
	empty, _ := filled(t, 0)
	few, _ := boxed(t, 5)
	full, _ := filled(t, 1024)
	for _, n := range []*dgram.Net{nil, empty, few, full} {
		for _, x := range numbers {
			dgram.New(x)
			for _, y := range numbers {
				n.Send(x, y, nil)
				n.Send(x, y, make([]byte, 1<<16))
				n.Spoil(x, y, math.MaxUint32)
			}
			n.Take(x)
			n.Box(x)
			n.Wipe(x)
			n.Twin(x)
			n.Deliver(x)
			n.Drop(x)
			n.Flight()
			n.Lost()
		}
	}
}
