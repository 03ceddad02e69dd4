package link_test

import (
	"testing"

	"rookery/api"
)

func TestP11_3HelloInShut(t *testing.T) {
	l := made(t, ownBoot)
	for _, p := range append(words(first), greeting(0), greeting(1), stranger(1), stranger(most32)) {
		wantTake(t, "P11.3: in Shut", l, p, took{})
		wantPhase(t, "P11.3: in Shut", l, api.Shut, 0)
		wantPeer(t, "P11.3: in Shut", l, 0, 0)
		wantOut(t, "P11.3: in Shut", l)
	}
	must(t, "P11.1: Open", l.Open())
	l.Out()
	wantTakeOf(t, "P11.3: what came in Shut is not the newest", l, 1, stranger(1), took{heard: true})
	wantPeer(t, "P11.3: what came in Shut is not the newest", l, 1, 1)
}

// A Hello that is not meant for this attempt: who it is from is known then.
func TestP11_3HelloInOpening(t *testing.T) {
	for _, p := range []api.Packet{
		{Kind: api.PHello, Mine: 5},
		{Kind: api.PHello, Mine: 5, Seq: 1},
		{Kind: api.PHello, Mine: 5, Boot: ownBoot, Yours: 2},
		{Kind: api.PHello, Mine: 5, Boot: ownBoot + 1, Yours: 1},
		{Kind: api.PHello, Mine: 5, Boot: ownBoot - 1, Yours: 1, Seq: 1},
		{Kind: api.PHello, Mine: 5, Boot: 1, Yours: ownBoot},
	} {
		l := opening(t)
		wantTake(t, "P11.3: not meant for this attempt", l, p, took{heard: true})
		wantPhase(t, "P11.3: not meant for this attempt", l, api.Opening, 1)
		wantPeer(t, "P11.3: not meant for this attempt", l, peerBoot, 5)
		wantOut(t, "P11.3: not meant for this attempt", l, plain{kind: api.PHello, mine: 1, boot: peerBoot, yours: 5})
	}
	for _, seq := range []uint32{0, 1} {
		l := opening(t)
		wantTake(t, "P11.3: meant for this attempt", l, greeting(seq), took{heard: true, up: true})
		wantOut(t, "P11.3: meant for this attempt", l, sentHello())
		wantUp(t, "P11.3: meant for this attempt", l, 0)
	}
}

// In Opening the same and a newer one do one thing, an older one nothing.
func TestP11_3AgesInOpening(t *testing.T) {
	for _, c := range []struct {
		boot, mine uint32
		older      bool
	}{
		{peerBoot, peerMine, false}, {peerBoot, peerMine + 1, false}, {peerBoot + 1, 1, false}, {most32, most32, false}, {peerBoot + 1, peerMine, false},
		{peerBoot, peerMine - 1, true}, {peerBoot, 1, true}, {peerBoot - 1, peerMine, true}, {peerBoot - 1, peerMine + 1, true}, {1, most32, true},
	} {
		for _, yours := range []uint32{1, 2} {
			l := opening(t)
			wantTake(t, "P11.3: the newest", l, stranger(peerMine), took{heard: true})
			l.Out()
			p := api.Packet{Kind: api.PHello, Mine: c.mine, Boot: ownBoot, Yours: yours}
			if c.older {
				wantTakeOf(t, "P11.3: an older one in Opening", l, c.boot, p, took{})
				wantPhase(t, "P11.3: an older one in Opening", l, api.Opening, 1)
				wantPeer(t, "P11.3: an older one in Opening", l, peerBoot, peerMine)
				wantOut(t, "P11.3: an older one in Opening", l)
				continue
			}
			wantTakeOf(t, "P11.3: one that is not older in Opening", l, c.boot, p, took{heard: true, up: yours == 1})
			wantPeer(t, "P11.3: one that is not older in Opening", l, c.boot, c.mine)
			wantOut(t, "P11.3: one that is not older in Opening", l,
				plain{kind: api.PHello, mine: 1, boot: c.boot, yours: c.mine, seq: 2 - yours})
		}
	}
}

// In Up a Hello of the same is answered if its Seq is 0, whatever it is meant
// for.
func TestP11_3TheSameHelloInUp(t *testing.T) {
	for _, seq := range []uint32{0, 1} {
		for _, p := range []api.Packet{
			greeting(seq),
			{Kind: api.PHello, Mine: peerMine, Seq: seq},
			{Kind: api.PHello, Mine: peerMine, Boot: ownBoot, Yours: 2, Seq: seq},
			{Kind: api.PHello, Mine: peerMine, Boot: ownBoot - 1, Yours: 1, Seq: seq},
		} {
			l := queued(t, 12)
			wantTake(t, "P11.3: the same in Up", l, p, took{heard: true})
			if seq == 0 {
				wantOut(t, "P11.3: the same in Up, Seq 0", l, sentHello())
			}
			wantUp(t, "P11.3: the same in Up", l, 12)
		}
	}
}

func TestP11_3AnOlderHelloInUp(t *testing.T) {
	for _, c := range [][2]uint32{{peerBoot, peerMine - 1}, {peerBoot, 1}, {peerBoot - 1, peerMine}, {peerBoot - 1, most32}, {1, peerMine + 1}} {
		for _, seq := range []uint32{0, 1} {
			l := queued(t, 12)
			p := greeting(seq)
			p.Mine = c[1]
			wantTakeOf(t, "P11.3: an older one in Up", l, c[0], p, took{})
			wantUp(t, "P11.3: an older one in Up", l, 12)
		}
	}
}

// A newer Hello in Up: an attempt begins, even if it is meant for the one that
// was.
func TestP11_3ANewerHelloInUp(t *testing.T) {
	for _, c := range [][2]uint32{{peerBoot, peerMine + 1}, {peerBoot, most32}, {peerBoot + 1, 1}, {peerBoot + 1, peerMine}, {most32, most32}} {
		for _, seq := range []uint32{0, 1} {
			for _, yours := range []uint32{0, 1, 2} {
				l := queued(t, 12)
				l.Take(peerBoot, data(first, first, "x"))
				l.Out()
				l.Tick()
				p := api.Packet{Kind: api.PHello, Mine: c[1], Seq: seq}
				if yours > 0 {
					p.Boot, p.Yours = ownBoot, yours
				}
				wantTakeOf(t, "P11.3: a newer one in Up", l, c[0], p, took{heard: true, down: true})
				wantPhase(t, "P11.3: a newer one in Up", l, api.Opening, 2)
				wantPeer(t, "P11.3: a newer one in Up", l, c[0], c[1])
				wantQueue(t, "P11.3: a newer one in Up", l, 0)
				hello := plain{kind: api.PHello, mine: 2, boot: c[0], yours: c[1]}
				wantOut(t, "P11.3: a newer one in Up", l, hello)
				ticks(t, "P11.3: idle is 0", l, 2)
				l.Tick()
				wantOut(t, "P11.4: the third tick", l, hello)
			}
		}
	}
}

// Behind it the numbers begin anew, and what was known of the last attempt is
// over.
func TestP11_3UpAgainBehindANewerHello(t *testing.T) {
	l := queued(t, 12)
	l.Take(peerBoot, data(first, first+2, "x"))
	wantTake(t, "P11.3: a newer one in Up", l, stranger(peerMine+1), took{heard: true, down: true})
	l.Out()
	wantTake(t, "P11.3: of the last attempt", l, greeting(0), took{})
	p := api.Packet{Kind: api.PHello, Mine: peerMine + 1, Boot: ownBoot, Yours: 1}
	wantTake(t, "P11.3: meant for the last attempt", l, p, took{heard: true})
	p.Yours = 2
	wantTake(t, "P11.3: meant for this one", l, p, took{heard: true, up: true})
	l.Out()
	must(t, "P11.2: Send", l.Send([]byte("y")))
	wantOut(t, "P11.3: the numbers begin anew", l,
		plain{kind: api.PData, mine: 2, boot: peerBoot, yours: peerMine + 1, seq: first, ack: first, body: "y"})
}

// With the last token no attempt can begin.
func TestP11_3ANewerHelloWithTheLastToken(t *testing.T) {
	for _, c := range [][2]uint32{{peerBoot, peerMine + 1}, {peerBoot + 1, 1}} {
		l := last(t, api.Up)
		p := stranger(c[1])
		wantTakeOf(t, "P11.3: a newer one, the last token", l, c[0], p, took{heard: true, down: true})
		wantPhase(t, "P11.3: a newer one, the last token", l, api.Shut, most32)
		wantPeer(t, "P11.3: a newer one, the last token", l, 0, 0)
		wantOut(t, "P11.3: a newer one, the last token", l)
		wantTakeOf(t, "P11.3: in Shut then", l, c[0], p, took{})
		ticks(t, "P11.4: in Shut then", l, 4)
		wantErr(t, "P11.1: Open then", l.Open(), api.ErrLinkToken)
		wantErr(t, "P11.2: Send then", l.Send([]byte("x")), api.ErrLinkPhase)
		if l.Shut() {
			t.Error("P11.1: Shut then")
		}
		wantQueue(t, "P11.1: Shut then", l, 0)
	}
	l := made(t, ownBoot)
	l.SkipTo(most32 - 2)
	l.Open()
	l.Take(peerBoot, api.Packet{Kind: api.PHello, Mine: peerMine, Boot: ownBoot, Yours: most32 - 1})
	l.Out()
	wantTake(t, "P11.3: a newer one, the last but one token", l, stranger(peerMine+1), took{heard: true, down: true})
	wantPhase(t, "P11.3: a newer one, the last but one token", l, api.Opening, most32)
	wantOut(t, "P11.3: a newer one, the last but one token", l, plain{kind: api.PHello, mine: most32, boot: peerBoot, yours: peerMine + 1})
}

// With the last token all else goes on.
func TestP11_3TheSameWithTheLastToken(t *testing.T) {
	l := last(t, api.Up)
	wantTake(t, "P11.3: the same, the last token", l, stranger(peerMine), took{heard: true})
	wantOut(t, "P11.3: the same, the last token", l, plain{kind: api.PHello, mine: most32, boot: peerBoot, yours: peerMine, seq: 1})
	p := data(first, first, "x")
	p.Yours = most32
	wantTake(t, "P11.3: Data, the last token", l, p, took{heard: true, body: "x"})
	l = last(t, api.Opening)
	wantTake(t, "P11.3: a newer one in Opening, the last token", l, stranger(3), took{heard: true})
	wantTake(t, "P11.3: a newer one in Opening, the last token", l, stranger(4), took{heard: true})
	wantPhase(t, "P11.3: a newer one in Opening, the last token", l, api.Opening, most32)
}
