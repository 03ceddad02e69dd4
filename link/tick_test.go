package link_test

import (
	"math"
	"testing"

	"rookery/api"
)

func TestP11_4TickInShut(t *testing.T) {
	l := made(t, ownBoot)
	ticks(t, "P11.4: Shut", l, 10)
	wantPhase(t, "P11.4: Shut", l, api.Shut, 0)
	l = queued(t, 20)
	l.Shut()
	ticks(t, "P11.4: Shut again", l, 10)
	wantPhase(t, "P11.4: Shut again", l, api.Shut, 1)
	must(t, "P11.1: Open", l.Open())
	l.Out()
	ticks(t, "P11.4: ticks in Shut do not count", l, 2)
}

// Each third tick emits a Hello, which tells who is known by then.
func TestP11_4TickInOpening(t *testing.T) {
	l := opening(t)
	for range 4 {
		ticks(t, "P11.4: Opening", l, 2)
		l.Tick()
		wantOut(t, "P11.4: the third tick in Opening", l, plain{kind: api.PHello, mine: 1})
	}
	l.Tick()
	wantTake(t, "P11.3: a Hello in Opening", l, stranger(3), took{heard: true})
	l.Out()
	ticks(t, "P11.4: a Hello that comes leaves idle as it is", l, 1)
	l.Tick()
	wantOut(t, "P11.4: Opening, known", l, plain{kind: api.PHello, mine: 1, boot: peerBoot, yours: 3})
	wantPhase(t, "P11.4: Opening", l, api.Opening, 1)
}

func TestP11_4TickInUpWithNoneSent(t *testing.T) {
	l := up(t)
	ticks(t, "P11.4: none is sent", l, 20)
	wantUp(t, "P11.4: none is sent", l, 0)
	l.Send(signal(0))
	l.Out()
	wantTake(t, "P11.3: an Ack of all", l, acked(first+1), took{heard: true})
	ticks(t, "P11.4: none is sent any more", l, 20)
}

// All that are sent come again at each third tick, in order; what waits does
// not.
func TestP11_4TickInUp(t *testing.T) {
	for _, n := range []int{1, 2, 7, 8, 9, 64} {
		l := queued(t, n)
		for range 4 {
			ticks(t, "P11.4: some are sent", l, 2)
			l.Tick()
			wantOut(t, "P11.4: the third tick in Up", l, sentSignals(0, min(n, 8))...)
		}
		wantUp(t, "P11.4: ticks leave the queue", l, n)
	}
}

// What comes again tells what is expected by now.
func TestP11_4AgainWithANewAck(t *testing.T) {
	l := queued(t, 1)
	ticks(t, "P11.4: one is sent", l, 2)
	wantTake(t, "P11.3: Data", l, data(first, first, "x"), took{heard: true, body: "x"})
	l.Out()
	l.Tick()
	wantOut(t, "P11.4: the number expected", l, sentData(first, first+1, string(signal(0))))
}

// Nothing but an Ack that takes something away makes idle 0.
func TestP11_4WhatLeavesIdle(t *testing.T) {
	l := queued(t, 2)
	l.Tick()
	l.Tick()
	for _, p := range []api.Packet{acked(first), acked(first + 3), beat(first), data(first, first, "x"), data(first, first+9, "x"), greeting(0), greeting(1), stranger(1)} {
		l.Take(peerBoot, p)
	}
	must(t, "P11.4: Beat", l.Beat(1, 2, 3))
	l.Open()
	l.Out()
	l.Tick()
	wantOut(t, "P11.4: idle was 2 still", l,
		sentData(first, first+1, string(signal(0))), sentData(first+1, first+1, string(signal(1))))
}

func TestP11_4BeatInEachPhase(t *testing.T) {
	l := made(t, ownBoot)
	wantErr(t, "P11.4: Beat in Shut", l.Beat(1, 2, 3), api.ErrLinkPhase)
	wantOut(t, "R2: Beat in Shut", l)
	l = opening(t)
	wantErr(t, "P11.4: Beat in Opening", l.Beat(1, 2, 3), api.ErrLinkPhase)
	l.Take(peerBoot, stranger(3))
	l.Out()
	wantErr(t, "P11.4: Beat in Opening, known", l.Beat(1, 2, 3), api.ErrLinkPhase)
	wantOut(t, "R2: Beat in Opening", l)
	l = up(t)
	must(t, "P11.4: Beat in Up", l.Beat(11, 12, complex(1.5, -2)))
	wantOut(t, "P11.4: Beat in Up", l, sentBeat(first, 11, 12, complex(1.5, -2)))
	l.Take(peerBoot, data(first, first, "x"))
	l.Out()
	must(t, "P11.4: Beat", l.Beat(most32, 0, 0))
	wantOut(t, "P11.4: the number expected", l, sentBeat(first+1, most32, 0, 0))
	l.Shut()
	wantErr(t, "P11.4: Beat behind Shut", l.Beat(1, 2, 3), api.ErrLinkPhase)
}

func TestP11_4PartsOfABeat(t *testing.T) {
	wrong := []float64{math.Copysign(0, -1), math.Inf(1), math.Inf(-1), math.NaN()}
	right := []float64{0, 1, -1, 0.1, math.MaxFloat64, -math.MaxFloat64, math.SmallestNonzeroFloat64, -math.SmallestNonzeroFloat64}
	for _, x := range right {
		for _, y := range right {
			l := up(t)
			must(t, "P11.4: Beat", l.Beat(0, most32, complex(x, y)))
			wantOut(t, "P11.4: Beat", l, sentBeat(first, 0, most32, complex(x, y)))
		}
		for _, y := range wrong {
			wantNoBeat(t, complex(x, y))
			wantNoBeat(t, complex(y, x))
		}
	}
	for _, x := range wrong {
		for _, y := range wrong {
			wantNoBeat(t, complex(x, y))
		}
	}
}

// wantNoBeat: z may be in none; and where there is no link, that comes first.
func wantNoBeat(t *testing.T, z complex128) {
	t.Helper()
	l := queued(t, 2)
	wantErr(t, "P11.4: Beat of a z that may not be", l.Beat(1, 2, z), api.ErrPackForm)
	wantUp(t, "R2: Beat of a z that may not be", l, 2)
	wantErr(t, "R1: Beat in Shut of such a z", made(t, ownBoot).Beat(1, 2, z), api.ErrLinkPhase)
	wantErr(t, "R1: Beat in Opening of such a z", opening(t).Beat(1, 2, z), api.ErrLinkPhase)
}
