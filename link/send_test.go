package link_test

import (
	"bytes"
	"testing"

	"rookery/api"
)

func TestP11_2SendInEachPhase(t *testing.T) {
	l := made(t, ownBoot)
	wantErr(t, "P11.2: Send in Shut", l.Send([]byte("x")), api.ErrLinkPhase)
	wantQueue(t, "R2: Send in Shut", l, 0)
	wantOut(t, "R2: Send in Shut", l)
	l = opening(t)
	wantErr(t, "P11.2: Send in Opening", l.Send([]byte("x")), api.ErrLinkPhase)
	wantQueue(t, "R2: Send in Opening", l, 0)
	wantOut(t, "R2: Send in Opening", l)
	wantTake(t, "P11.3: a Hello in Opening", l, stranger(peerMine), took{heard: true})
	l.Out()
	wantErr(t, "P11.2: Send in Opening, known", l.Send([]byte("x")), api.ErrLinkPhase)
	wantTake(t, "P11.3: a Hello in Opening", l, greeting(0), took{heard: true, up: true})
	l.Out()
	wantUp(t, "R2: what was refused is not queued", l, 0)
	must(t, "P11.2: Send in Up", l.Send([]byte("x")))
	wantOut(t, "P11.2: Send in Up", l, sentData(first, first, "x"))
	wantQueue(t, "P11.2: Send in Up", l, 1)
	l.Shut()
	wantErr(t, "P11.2: Send behind Shut", l.Send([]byte("x")), api.ErrLinkPhase)
}

func TestP11_2Lengths(t *testing.T) {
	for _, n := range []int{0, 1001, 1002, 1 << 20} {
		l := up(t)
		wantErr(t, "P11.2: Send of none, or of too many", l.Send(make([]byte, n)), api.ErrLinkLong)
		wantUp(t, "R2: Send of none, or of too many", l, 0)
	}
	for _, n := range []int{1, 2, 999, 1000} {
		l := up(t)
		b := bytes.Repeat([]byte{byte(n), 3}, n)[:n]
		must(t, "P11.2: Send", l.Send(b))
		wantOut(t, "P11.2: Send", l, sentData(first, first, string(b)))
		wantUp(t, "P11.2: Send", l, 1)
	}
}

// The first eight are sent at once, those behind them wait; all have numbers
// in their order, which go round.
func TestP11_2Window(t *testing.T) {
	l := up(t)
	for i := range 8 {
		must(t, "P11.2: Send with fewer than 8 sent", l.Send(signal(i)))
		wantOut(t, "P11.2: Send with fewer than 8 sent", l, sentSignals(i, i+1)...)
	}
	for i := range 56 {
		must(t, "P11.2: Send with 8 sent", l.Send(signal(8+i)))
		wantUp(t, "P11.2: Send with 8 sent", l, 9+i)
	}
}

func TestP11_2NumbersGoRound(t *testing.T) {
	l := up(t)
	for _, want := range []uint32{4294967293, 4294967294, 4294967295, 0, 1} {
		must(t, "P11.2: Send", l.Send([]byte("x")))
		wantOut(t, "P11.2: numbers go round", l, sentData(want, first, "x"))
	}
}

func TestP11_2FullQueue(t *testing.T) {
	l := queued(t, 63)
	must(t, "P11.2: Send with 63 queued", l.Send(signal(63)))
	wantUp(t, "P11.2: Send with 63 queued", l, 64)
	for range 3 {
		wantErr(t, "P11.2: Send with 64 queued", l.Send([]byte("x")), api.ErrLinkFull)
		wantUp(t, "R2: Send with 64 queued", l, 64)
	}
	wantTake(t, "P11.3: an Ack of one", l, acked(first+1), took{heard: true})
	wantOut(t, "P11.3: an Ack of one", l, sentSignals(8, 9)...)
	must(t, "P11.2: Send with room again", l.Send(signal(64)))
	wantUp(t, "P11.2: Send with room again", l, 64)
	wantErr(t, "P11.2: Send with 64 queued", l.Send(signal(65)), api.ErrLinkFull)
}

// All that was queued comes out, in order, with its own number.
func TestP11_2AllAreSentInTheEnd(t *testing.T) {
	l := queued(t, 64)
	for i := range 64 {
		wantTake(t, "P11.3: an Ack", l, acked(first+uint32(i)+1), took{heard: true})
		if i+8 < 64 {
			wantOut(t, "P11.3: what waits is sent", l, sentSignals(i+8, i+9)...)
		}
		wantUp(t, "P11.3: an Ack", l, 63-i)
	}
	must(t, "P11.2: Send into an empty queue", l.Send(signal(64)))
	wantOut(t, "P11.2: Send into an empty queue", l, sentSignals(64, 65)...)
}

// Data tells what is expected when it is emitted.
func TestP11_2DataAcknowledges(t *testing.T) {
	l := up(t)
	l.Take(peerBoot, data(first, first, "a"))
	l.Take(peerBoot, data(first+1, first, "b"))
	l.Out()
	must(t, "P11.2: Send", l.Send([]byte("x")))
	wantOut(t, "P11.2: the number expected", l, sentData(first, first+2, "x"))
}

// The first one sent makes idle 0, whatever it was in Opening; one behind it
// does not.
func TestP11_2Idle(t *testing.T) {
	for n := range 3 {
		l := opening(t)
		ticks(t, "P11.4: Opening", l, n)
		wantTake(t, "P11.3: Hello", l, greeting(1), took{heard: true, up: true})
		l.Out()
		l.Send(signal(0))
		l.Out()
		ticks(t, "P11.2: idle is 0 with the first one sent", l, 2)
		l.Tick()
		wantOut(t, "P11.2: idle is 0 with the first one sent", l, sentSignals(0, 1)...)
	}
	for n := range 3 {
		l := queued(t, 1)
		ticks(t, "P11.4: one sent", l, n)
		l.Send(signal(1))
		l.Out()
		ticks(t, "P11.2: idle stays with the second one", l, 2-n)
		l.Tick()
		wantOut(t, "P11.2: idle stays with the second one", l, sentSignals(0, 2)...)
	}
	for n := range 3 {
		l := queued(t, 8)
		ticks(t, "P11.4: eight sent", l, n)
		l.Send(signal(8))
		ticks(t, "P11.2: idle stays with one that waits", l, 2-n)
		l.Tick()
		wantOut(t, "P11.2: idle stays with one that waits", l, sentSignals(0, 8)...)
	}
}

// ErrLinkPhase is first, then the length, then the queue.
func TestR1Send(t *testing.T) {
	for _, b := range [][]byte{nil, {}, make([]byte, 1001)} {
		wantErr(t, "R1: Send in Shut of what is too long", made(t, ownBoot).Send(b), api.ErrLinkPhase)
		wantErr(t, "R1: Send in Opening of what is too long", opening(t).Send(b), api.ErrLinkPhase)
		l := queued(t, 64)
		wantErr(t, "R1: Send with 64 queued of what is too long", l.Send(b), api.ErrLinkLong)
		wantUp(t, "R2: Send with 64 queued of what is too long", l, 64)
	}
}
