package link_test

import (
	"math"
	"testing"

	"rookery/api"
	"rookery/link"
	"rookery/pack"
)

// refused: packets that may not be, and what pack says of them.
func refused() []api.Packet {
	wrong := []api.Packet{
		{}, {Kind: -1, Mine: 1}, {Kind: 5, Mine: 1}, {Kind: math.MaxInt, Mine: 1},
		{Kind: api.PHello}, {Kind: api.PHello, Mine: peerMine, Seq: 2}, {Kind: api.PHello, Mine: peerMine, Boot: ownBoot},
		{Kind: api.PHello, Mine: peerMine, Yours: 1}, {Kind: api.PHello, Mine: peerMine, Ack: 1}, {Kind: api.PHello, Mine: peerMine, Body: []byte("x")},
		data(first, first, ""), data(first, first, string(make([]byte, 1001))),
	}
	for _, p := range words(first) {
		p.Mine = 0
		wrong = append(wrong, p)
		p.Mine, p.Boot = peerMine, 0
		wrong = append(wrong, p)
		p.Boot, p.Yours = ownBoot, 0
		wrong = append(wrong, p)
	}
	for _, x := range []float64{math.Copysign(0, -1), math.Inf(1), math.NaN()} {
		p := beat(first)
		p.Z = complex(1, x)
		wrong = append(wrong, p)
	}
	return wrong
}

// inEachPhase: ends that are Shut, Opening, and Up with signals in the queue.
func inEachPhase(t *testing.T) []*link.Link {
	t.Helper()
	return []*link.Link{made(t, ownBoot), opening(t), queued(t, 9)}
}

func TestP11_3Refused(t *testing.T) {
	for _, p := range refused() {
		want := pack.Check(p)
		if want == api.OK {
			t.Fatalf("%+v may be", p)
		}
		for phase, l := range inEachPhase(t) {
			wantRefused(t, "P11.3: a packet that may not be", l, peerBoot, p, want)
			wantRefused(t, "P11.3: an older packet that may not be", l, 1, p, want)
			wantRefused(t, "R1: such a packet of boot 0", l, 0, p, api.ErrArg)
			wantPhase(t, "R2: a packet that may not be", l, phase, uint32(min(phase, 1)))
			wantQueue(t, "R2: a packet that may not be", l, []int{0, 0, 9}[phase])
			wantOut(t, "R2: a packet that may not be", l)
		}
	}
}

func TestP11_3Boot0(t *testing.T) {
	for _, p := range append(words(first+1), greeting(0), greeting(1), stranger(most32)) {
		for phase, l := range inEachPhase(t) {
			wantRefused(t, "P11.3: boot 0", l, 0, p, api.ErrArg)
			wantPhase(t, "R2: boot 0", l, phase, uint32(min(phase, 1)))
			wantQueue(t, "R2: boot 0", l, []int{0, 0, 9}[phase])
			wantOut(t, "R2: boot 0", l)
		}
	}
}

// Data, Ack and Beat do nothing in Opening, whoever is known.
func TestP11_3WordsInOpening(t *testing.T) {
	l := opening(t)
	for _, p := range words(first) {
		wantTake(t, "P11.3: in Opening, not known", l, p, took{})
	}
	wantPeer(t, "P11.3: in Opening, not known", l, 0, 0)
	wantTake(t, "P11.3: Hello", l, stranger(peerMine), took{heard: true})
	l.Out()
	for _, mine := range []uint32{peerMine - 1, peerMine, peerMine + 1} {
		for _, p := range words(first) {
			p.Mine = mine
			wantTake(t, "P11.3: in Opening, known", l, p, took{})
		}
	}
	wantPhase(t, "P11.3: in Opening", l, api.Opening, 1)
	wantPeer(t, "P11.3: in Opening", l, peerBoot, peerMine)
	wantOut(t, "P11.3: in Opening", l)
}

// In Up they do nothing, unless they are of the same, and meant for this
// attempt.
func TestP11_3WordsOfOthersInUp(t *testing.T) {
	for _, c := range [][4]uint32{ // the sender's boot and Mine; Boot and Yours
		{peerBoot, peerMine - 1, ownBoot, 1}, {peerBoot - 1, peerMine, ownBoot, 1}, {peerBoot - 1, most32, ownBoot, 1},
		{peerBoot, peerMine + 1, ownBoot, 1}, {peerBoot + 1, peerMine, ownBoot, 1}, {peerBoot + 1, 1, ownBoot, 1}, {most32, most32, ownBoot, 1},
		{peerBoot, peerMine, ownBoot - 1, 1}, {peerBoot, peerMine, ownBoot + 1, 1}, {peerBoot, peerMine, ownBoot, 2}, {peerBoot, peerMine, ownBoot, most32},
		{peerBoot, peerMine, 1, ownBoot}, {peerMine, peerBoot, ownBoot, 1},
	} {
		for _, p := range words(first + 1) {
			l := queued(t, 9)
			p.Mine, p.Boot, p.Yours = c[1], c[2], c[3]
			wantTakeOf(t, "P11.3: of another, or meant for another", l, c[0], p, took{})
			wantUp(t, "P11.3: of another, or meant for another", l, 9)
			wantTake(t, "P11.3: nothing was expected less", l, data(first, first, "x"), took{heard: true, body: "x"})
		}
	}
}

// A newer one that is no Hello is not the newest: an older Hello than it is
// still newer than what was.
func TestP11_3NewerWordsAreNotTheNewest(t *testing.T) {
	for _, p := range words(first) {
		l := up(t)
		p.Mine = most32
		wantTakeOf(t, "P11.3: a newer one that is no Hello", l, most32, p, took{})
		wantTake(t, "P11.3: the same Hello", l, greeting(1), took{heard: true})
		wantTake(t, "P11.3: a newer Hello", l, stranger(peerMine+1), took{heard: true, down: true})
	}
}

func TestP11_3Data(t *testing.T) {
	l := up(t)
	wantTake(t, "P11.3: Data behind the number expected", l, data(first+1, first, "b"), took{heard: true})
	wantOut(t, "P11.3: Data behind the number expected", l, sentAck(first))
	wantTake(t, "P11.3: Data ahead of the number expected", l, data(first-1, first, "z"), took{heard: true})
	wantOut(t, "P11.3: Data ahead of the number expected", l, sentAck(first))
	wantTake(t, "P11.3: Data", l, data(first, first, "a"), took{heard: true, body: "a"})
	wantOut(t, "P11.3: Data", l, sentAck(first+1))
	wantTake(t, "P11.3: Data again", l, data(first, first, "a"), took{heard: true})
	wantOut(t, "P11.3: Data again", l, sentAck(first+1))
	wantTake(t, "P11.3: Data, the next one", l, data(first+1, first, "b"), took{heard: true, body: "b"})
	wantOut(t, "P11.3: Data, the next one", l, sentAck(first+2))
	wantUp(t, "P11.3: Data", l, 0)
}

func TestP11_3NumbersExpectedGoRound(t *testing.T) {
	l := up(t)
	for _, seq := range []uint32{4294967293, 4294967294, 4294967295, 0, 1, 2} {
		wantTake(t, "P11.3: one behind", l, data(seq+1, first, "y"), took{heard: true})
		wantOut(t, "P11.3: one behind", l, sentAck(seq))
		wantTake(t, "P11.3: numbers go round", l, data(seq, first, "x"), took{heard: true, body: "x"})
		wantOut(t, "P11.3: numbers go round", l, sentAck(seq+1))
		wantTake(t, "P11.3: again", l, data(seq, first, "x"), took{heard: true})
		wantOut(t, "P11.3: again", l, sentAck(seq+1))
	}
}

func TestP11_3LongestBody(t *testing.T) {
	for _, n := range []int{1, 999, 1000} {
		b := string(make([]byte, n-1)) + "e"
		wantTake(t, "P11.3: a long Body", up(t), data(first, first, b), took{heard: true, body: b})
	}
}

// Ack and Beat emit nothing by themselves, and deliver nothing.
func TestP11_3AckAndBeatAlone(t *testing.T) {
	for _, p := range []api.Packet{acked(first), beat(first)} {
		l := up(t)
		wantTake(t, "P11.3: Ack or Beat", l, p, took{heard: true})
		wantUp(t, "P11.3: Ack or Beat", l, 0)
	}
}

// withAck: a packet of each kind that acknowledges; those of Data once with the
// number expected and once with another one.
func withAck(ack uint32) []api.Packet {
	return append(words(ack), data(first+5, ack, "far"))
}

// k is how far Ack lies ahead of base: from 1 to how many are sent the queue's
// first k are gone, and what waits is sent; else nothing.
func TestP11_3Acks(t *testing.T) {
	for _, n := range []int{0, 1, 2, 7, 8, 9, 10, 16, 20, 64} {
		sent := min(n, 8)
		for _, k := range []int{0, 1, 2, sent - 1, sent, sent + 1, n, n + 1, 1 << 31, 1<<32 - 1, 1<<32 - 8} {
			if k < 0 {
				continue
			}
			for _, p := range withAck(plus(first, k)) {
				l := queued(t, n)
				gone, expected, body := 0, first, ""
				if k >= 1 && k <= sent {
					gone = k
				}
				if p.Kind == api.PData && p.Seq == first {
					expected, body = first+1, "d"
				}
				wantTake(t, "P11.3: an Ack", l, p, took{heard: true, body: body})
				want := sentSignals(sent, min(n, sent+gone))
				for i := range want {
					want[i].ack = expected
				}
				if p.Kind == api.PData {
					want = append(want, sentAck(expected))
				}
				wantOut(t, "P11.3: what waits is sent", l, want...)
				wantUp(t, "P11.3: an Ack", l, n-gone)
			}
		}
	}
}

// An Ack that came already, and one that is late, take nothing away.
func TestP11_3OldAcks(t *testing.T) {
	l := queued(t, 20)
	wantTake(t, "P11.3: an Ack of 5", l, acked(first+5), took{heard: true})
	wantOut(t, "P11.3: an Ack of 5", l, sentSignals(8, 13)...)
	for _, k := range []uint32{0, 1, 4, 5, 14, 15} {
		wantTake(t, "P11.3: an Ack that is late, or of what was not sent", l, acked(first+k), took{heard: true})
		wantUp(t, "P11.3: an Ack that is late, or of what was not sent", l, 15)
	}
	wantTake(t, "P11.3: an Ack of all sent", l, acked(first+13), took{heard: true})
	wantOut(t, "P11.3: an Ack of all sent", l, sentSignals(13, 20)...)
	wantTake(t, "P11.3: an Ack of all", l, acked(first+20), took{heard: true})
	wantUp(t, "P11.3: an Ack of all", l, 0)
}

// An Ack that takes something away makes idle 0.
func TestP11_3AckMakesIdle0(t *testing.T) {
	for _, p := range withAck(first + 1) {
		l := queued(t, 3)
		ticks(t, "P11.4", l, 2)
		l.Take(peerBoot, p)
		wantQueue(t, "P11.3: an Ack of one", l, 2)
		l.Out()
		ticks(t, "P11.3: idle is 0 behind an Ack", l, 2)
		l.Tick()
		if got := plainAll(l.Out()); len(got) != 2 || got[0].body != string(signal(1)) || got[0].seq != first+1 {
			t.Errorf("P11.4: the third tick behind an Ack: %+v", clip(got))
		}
	}
}

func TestP11Examples(t *testing.T) {
	a, b := made(t, 1), made(t, 1)
	must(t, "P11.1: Open", a.Open())
	must(t, "P11.1: Open", b.Open())
	hellos := [2]int{}
	for range 10 {
		for _, p := range a.Out() {
			hellos[0]++
			b.Take(1, p)
		}
		for _, p := range b.Out() {
			hellos[1]++
			a.Take(1, p)
		}
	}
	wantPhase(t, "the example: Open", a, api.Up, 1)
	wantPhase(t, "the example: Open", b, api.Up, 1)
	if hellos[0] > 3 || hellos[1] > 3 {
		t.Errorf("the example: %v Hellos", hellos)
	}
	must(t, "the example: Send", a.Send([]byte("x")))
	out := a.Out()
	if len(out) != 1 || out[0].Kind != api.PData || out[0].Seq != 4294967293 {
		t.Fatalf("the example: Send: %+v", out)
	}
	wantTakeOf(t, "the example: Take", b, 1, out[0], took{heard: true, body: "x"})
	wantOut(t, "the example: Take", b, plain{kind: api.PAck, mine: 1, boot: 1, yours: 1, ack: 4294967294})
}
