package link_test

import (
	"testing"

	"rookery/api"
	"rookery/link"
)

func TestP11_1New(t *testing.T) {
	if l, e := link.New(0); l != nil || e != api.ErrArg {
		t.Errorf("P11.1: New(0): %v, %d", l, e)
	}
	for _, boot := range []uint32{1, 2, ownBoot, most32} {
		l := made(t, boot)
		wantPhase(t, "P11.1: New", l, api.Shut, 0)
		wantPeer(t, "P11.1: New", l, 0, 0)
		wantQueue(t, "P11.1: New", l, 0)
		wantOut(t, "P11.1: New", l)
	}
}

// The boot is its own: by it the other end's Hello is meant, or not.
func TestP11_1NewHasThatBoot(t *testing.T) {
	for _, boot := range []uint32{1, 2, most32} {
		l := made(t, boot)
		l.Open()
		for _, other := range []uint32{boot - 1, boot + 1} {
			if other != 0 {
				wantTake(t, "P11.1: another boot", l, api.Packet{Kind: api.PHello, Mine: 1, Boot: other, Yours: 1}, took{heard: true})
			}
		}
		wantTake(t, "P11.1: its own boot", l, api.Packet{Kind: api.PHello, Mine: 1, Boot: boot, Yours: 1}, took{heard: true, up: true})
	}
}

func TestP11_1Open(t *testing.T) {
	l := made(t, ownBoot)
	must(t, "P11.1: Open", l.Open())
	wantPhase(t, "P11.1: Open", l, api.Opening, 1)
	wantPeer(t, "P11.1: Open", l, 0, 0)
	wantQueue(t, "P11.1: Open", l, 0)
	wantOut(t, "P11.1: Open", l, plain{kind: api.PHello, mine: 1})
}

func TestP11_1OpenInEachPhase(t *testing.T) {
	l := opening(t)
	wantErr(t, "P11.1: Open in Opening", l.Open(), api.ErrLinkPhase)
	wantPhase(t, "R2: Open in Opening", l, api.Opening, 1)
	wantOut(t, "R2: Open in Opening", l)
	l = queued(t, 3)
	wantErr(t, "P11.1: Open in Up", l.Open(), api.ErrLinkPhase)
	wantUp(t, "R2: Open in Up", l, 3)
	l.Shut()
	must(t, "P11.1: Open behind Shut", l.Open())
	wantPhase(t, "P11.1: Open behind Shut", l, api.Opening, 2)
	wantPeer(t, "P11.1: Open behind Shut", l, 0, 0)
	wantOut(t, "P11.1: Open behind Shut", l, plain{kind: api.PHello, mine: 2})
}

func TestP11_1OpenOfTheLastToken(t *testing.T) {
	l := made(t, ownBoot)
	l.SkipTo(most32 - 1)
	must(t, "P11.1: Open of the last but one token", l.Open())
	wantPhase(t, "P11.1: Open of the last but one token", l, api.Opening, most32)
	wantOut(t, "P11.1: Open of the last but one token", l, plain{kind: api.PHello, mine: most32})
	l = last(t, api.Shut)
	for range 3 {
		wantErr(t, "P11.1: Open of the last token", l.Open(), api.ErrLinkToken)
		wantPhase(t, "R2: Open of the last token", l, api.Shut, most32)
		wantOut(t, "R2: Open of the last token", l)
	}
	for _, phase := range []int{api.Opening, api.Up} {
		l = last(t, phase)
		wantErr(t, "R1: Open of the last token, not Shut", l.Open(), api.ErrLinkPhase)
		wantPhase(t, "R2: Open of the last token, not Shut", l, phase, most32)
	}
}

// A token is used once: each attempt has one more.
func TestP11_1TokensRise(t *testing.T) {
	l := made(t, ownBoot)
	for n := uint32(1); n <= 300; n++ {
		must(t, "P11.1: Open", l.Open())
		wantPhase(t, "P11.1: Open", l, api.Opening, n)
		l.Shut()
		wantPhase(t, "P11.1: Shut", l, api.Shut, n)
	}
}

func TestP11_1ShutInEachPhase(t *testing.T) {
	l := made(t, ownBoot)
	for range 2 {
		if l.Shut() {
			t.Error("P11.1: Shut of one that was never opened")
		}
		wantPhase(t, "P11.1: Shut in Shut", l, api.Shut, 0)
	}
	l = opening(t)
	if l.Shut() {
		t.Error("P11.1: Shut in Opening")
	}
	wantPhase(t, "P11.1: Shut in Opening", l, api.Shut, 1)
	l = queued(t, 20)
	if !l.Shut() {
		t.Error("P11.1: Shut in Up")
	}
	wantPhase(t, "P11.1: Shut in Up", l, api.Shut, 1)
	wantPeer(t, "P11.1: Shut in Up", l, 0, 0)
	wantQueue(t, "P11.1: Shut in Up", l, 0)
	wantOut(t, "P11.1: Shut in Up", l)
	if l.Shut() {
		t.Error("P11.1: Shut again")
	}
}

// What is known in Opening is not known any more behind Shut.
func TestP11_1ShutOfOneThatIsKnown(t *testing.T) {
	l := opening(t)
	wantTake(t, "P11.3: a Hello in Opening", l, stranger(3), took{heard: true})
	wantPeer(t, "P11.1: known in Opening", l, peerBoot, 3)
	l.Shut()
	wantPeer(t, "P11.1: behind Shut", l, 0, 0)
}

// The newest stays behind Shut: what is older does nothing in the next attempt.
func TestP11_1TheNewestStays(t *testing.T) {
	l := up(t)
	l.Shut()
	must(t, "P11.1: Open", l.Open())
	l.Out()
	hello := api.Packet{Kind: api.PHello, Mine: peerMine - 1, Boot: ownBoot, Yours: 2}
	wantTake(t, "P11.1: an older Mine behind Shut", l, hello, took{})
	hello.Mine = most32
	wantTakeOf(t, "P11.1: an older boot behind Shut", l, peerBoot-1, hello, took{})
	wantPeer(t, "P11.1: older ones behind Shut", l, 0, 0)
	wantOut(t, "P11.1: older ones behind Shut", l)
	hello.Mine = peerMine
	wantTake(t, "P11.1: the same behind Shut", l, hello, took{heard: true, up: true})
	wantPeer(t, "P11.1: the same behind Shut", l, peerBoot, peerMine)
}

// What was emitted ahead of Shut is there to be fetched.
func TestP11_1WhatWasEmittedStays(t *testing.T) {
	l := up(t)
	must(t, "P11.2: Send", l.Send(signal(0)))
	l.Shut()
	wantOut(t, "P11.1: behind Shut", l, sentSignals(0, 1)...)
	must(t, "P11.1: Open", l.Open())
	l.Shut()
	must(t, "P11.1: Open", l.Open())
	wantOut(t, "P11.1: two attempts", l, plain{kind: api.PHello, mine: 2}, plain{kind: api.PHello, mine: 3})
}

// All of the last attempt is gone: queue, what was sent, numbers, idle.
func TestP11_1AnAttemptBeginsAnew(t *testing.T) {
	l := queued(t, 20)
	wantTake(t, "P11.3: Data", l, data(first, first+3, "x"), took{heard: true, body: "x"})
	l.Tick()
	l.Tick()
	l.Shut()
	l.Open()
	l.Out()
	ticks(t, "P11.1: a new attempt", l, 2)
	l.Tick()
	wantOut(t, "P11.4: the third tick", l, plain{kind: api.PHello, mine: 2})
	hello := api.Packet{Kind: api.PHello, Mine: peerMine + 1, Boot: ownBoot, Yours: 2}
	wantTake(t, "P11.3: Hello", l, hello, took{heard: true, up: true})
	l.Out()
	wantQueue(t, "P11.1: a new attempt", l, 0)
	must(t, "P11.2: Send", l.Send([]byte("y")))
	wantOut(t, "P11.1: the numbers begin anew", l,
		plain{kind: api.PData, mine: 2, boot: peerBoot, yours: peerMine + 1, seq: first, ack: first, body: "y"})
}

func TestP11_1Peer(t *testing.T) {
	l := made(t, ownBoot)
	wantPeer(t, "P11.1: Shut", l, 0, 0)
	l.Open()
	wantPeer(t, "P11.1: Opening, not known", l, 0, 0)
	l.Take(9, stranger(8))
	wantPeer(t, "P11.1: Opening, known", l, 9, 8)
	l.Take(most32, stranger(most32))
	wantPeer(t, "P11.1: Opening, a newer one", l, most32, most32)
	l.Take(most32, api.Packet{Kind: api.PHello, Mine: most32, Boot: ownBoot, Yours: 1})
	wantPhase(t, "P11.1: Up", l, api.Up, 1)
	wantPeer(t, "P11.1: Up", l, most32, most32)
}

func TestP11_1OutTwice(t *testing.T) {
	l := up(t)
	must(t, "P11.2: Send", l.Send(signal(0)))
	must(t, "P11.4: Beat", l.Beat(1, 2, 3))
	must(t, "P11.2: Send", l.Send(signal(1)))
	wantOut(t, "P11.1: in order", l, sentData(first, first, "s\x00"), sentBeat(first, 1, 2, 3), sentData(first+1, first, "s\x01"))
	wantOut(t, "P11.1: fetched already", l)
	must(t, "P11.4: Beat", l.Beat(4, 5, 6))
	wantOut(t, "P11.1: what came since", l, sentBeat(first, 4, 5, 6))
}

// 1024 are kept, the first ones; what is emitted beyond is lost, and when they
// are fetched there is room again.
func TestP11_1MoreThan1024(t *testing.T) {
	for _, n := range []int{1023, 1024, 1025, 3000} {
		l := up(t)
		var want []plain
		for i := range n {
			must(t, "P11.4: Beat", l.Beat(uint32(i), 7, 8))
			want = append(want, sentBeat(first, uint32(i), 7, 8))
		}
		wantOut(t, "P11.1: many", l, want[:min(n, 1024)]...)
		must(t, "P11.4: Beat", l.Beat(1, 2, 3))
		wantOut(t, "P11.1: room again", l, sentBeat(first, 1, 2, 3))
	}
}

// full: an end that is Up and has emitted 1024, and what these are.
func full(t *testing.T, l *link.Link) []plain {
	t.Helper()
	var want []plain
	for range 1024 {
		must(t, "P11.4: Beat", l.Beat(1, 2, 3))
		want = append(want, sentBeat(first, 1, 2, 3))
	}
	return want
}

// A packet of any kind is lost then, and all else goes on as if it were not:
// what was sent is sent, and comes again by ticks.
func TestP11_1LostIsAsSent(t *testing.T) {
	l := up(t)
	want := full(t, l)
	for i := range 9 {
		must(t, "P11.2: Send with 1024 emitted", l.Send(signal(i)))
	}
	wantTake(t, "P11.3: Data with 1024 emitted", l, data(first, first, "x"), took{heard: true, body: "x"})
	wantTake(t, "P11.3: Hello with 1024 emitted", l, greeting(0), took{heard: true})
	wantQueue(t, "P11.1: 1024 emitted", l, 9)
	wantOut(t, "P11.1: 1024 emitted", l, want...)
	ticks(t, "P11.4", l, 2)
	l.Tick()
	var again []plain
	for i := range 8 {
		again = append(again, sentData(first+uint32(i), first+1, string(signal(i))))
	}
	wantOut(t, "P11.4: what was lost comes again", l, again...)
}

// Where there is room for some alone, these are emitted, the first ones.
func TestP11_1RoomForSome(t *testing.T) {
	l := queued(t, 8)
	var want []plain
	for range 1021 {
		l.Beat(1, 2, 3)
		want = append(want, sentBeat(first, 1, 2, 3))
	}
	for range 3 {
		l.Tick()
	}
	wantOut(t, "P11.1: room for three", l, append(want, sentSignals(0, 3)...)...)
}

// A Hello that is lost so is sent again, in Opening, by ticks.
func TestP11_1ManyHellos(t *testing.T) {
	l := made(t, ownBoot)
	var want []plain
	for n := range uint32(1030) {
		must(t, "P11.1: Open", l.Open())
		want = append(want, plain{kind: api.PHello, mine: n + 1})
		l.Shut()
	}
	wantOut(t, "P11.1: 1030 attempts", l, want[:1024]...)
	l.Open()
	wantOut(t, "P11.1: one more", l, plain{kind: api.PHello, mine: 1031})
}
