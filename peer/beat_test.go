package peer_test

import (
	"slices"
	"testing"

	"rookery/api"
	"rookery/chart"
	"rookery/peer"
)

// charted: a chart like that of the tests' own node at first.
func charted(t *testing.T) *chart.Chart {
	t.Helper()
	c, e := chart.New(ownZ)
	if e != api.OK {
		t.Fatalf("P13.1: New: %d", e)
	}
	return c
}

// movedBy: where the tests' own node stands when it has heard that once.
func movedBy(t *testing.T, node int, z complex128, trip int) complex128 {
	t.Helper()
	c := charted(t)
	wantErr(t, "P13.1: Hear", c.Hear(node, z, trip), api.OK)
	return c.Own()
}

// nows: how many ticks there were.
var nows = []uint32{0, 1, 2, 7, 1<<20 - 1, 1 << 20, 1<<20 + 1, 1 << 31, most32 - 1, most32}

// The edges of an echo, at many times: the chart hears of a Beat whose echo is
// not 0 and lies behind now by 2^20 ticks at most.
func TestP14_3Echo(t *testing.T) {
	for _, n := range others {
		f, z := farOf(n), complex(700, -300)
		for _, now := range nows {
			for _, behind := range []int64{0, 1, 2, 5, 1<<20 - 1, 1 << 20, 1<<20 + 1, 1<<20 + 2, 1 << 31, 1<<32 - 2, 1<<32 - 1} {
				p := up(t, n)
				p.SkipTo(now)
				echo := (int64(now) - behind + 1<<32) % (1 << 32)
				want := ownZ
				if echo != 0 && behind <= 1<<20 {
					want = movedBy(t, n, z, int(behind))
				}
				wantTake(t, "P14.3: a Beat", p, f, f.beat(3, uint32(echo), z), "")
				wantOwn(t, "P14.3: a Beat", p, want)
				if t.Failed() {
					t.Fatalf("node %d, now %d, behind by %d", n, now, behind)
				}
			}
		}
	}
}

// The same by ticks alone, with the edges written out.
func TestP14_3EchoByTicks(t *testing.T) {
	f, z := farOf(1), complex(-40, 2)
	for _, c := range []struct {
		echo uint32
		trip int // below 0: it is not heard of
	}{{0, -1}, {1, 8}, {5, 4}, {8, 1}, {9, 0}, {10, -1}, {11, -1}, {1 << 20, -1}, {1 << 31, -1}, {most32, 10}, {most32 - 1, 11}, {most32 - 100, 110}} {
		p := up(t, 1)
		ticks(t, p, 9)
		want := ownZ
		if c.trip >= 0 {
			want = movedBy(t, 1, z, c.trip)
		}
		wantTake(t, "P14.3: a Beat", p, f, f.beat(3, c.echo, z), "")
		wantOwn(t, "P14.3: a Beat", p, want)
	}
}

// 2^20 ticks, and one more.
func TestP14_3TheLongestTrip(t *testing.T) {
	f, z := farOf(1), complex(-40, 2)
	p := made(t, me, me, ownBoot)
	rise(t, p, f)
	for range 1<<20 + 1 {
		p.Tick()
		p.Take(1, f.boot, laid(t, f.greeting(1)))
		p.Out()
	}
	wantTake(t, "P14.3: a trip that is too long", p, f, f.beat(3, most32, z), "")
	wantOwn(t, "P14.3: a trip that is too long", p, ownZ)
	wantTake(t, "P14.3: the longest trip", p, f, f.beat(3, 1, z), "")
	wantOwn(t, "P14.3: the longest trip", p, movedBy(t, 1, z, 1<<20))
}

// Each Beat is heard of once, one behind the other, whoever tells it, and two
// that are the same twice.
func TestP14_3OnceEach(t *testing.T) {
	for seed := range int64(40) {
		k := newMaker(seed)
		p, c := up(t, 1, 2, 5), charted(t)
		now := []uint32{5000, 61, most32 - 2}[k.Intn(3)]
		p.SkipTo(now)
		for range 60 {
			f := farOf([]int{1, 2, 5}[k.Intn(3)])
			trip := k.Intn(60)
			z := complex(k.NormFloat64()*50, k.NormFloat64()*50)
			for range 1 + k.Intn(2) {
				wantTake(t, "P14.3: a Beat", p, f, f.beat(k.Uint32(), now-uint32(trip), z), "")
				wantErr(t, "P13.1: Hear", c.Hear(f.node, z, trip), api.OK)
			}
			wantOwn(t, "P14.3: the chart hears", p, c.Own())
			wantNear(t, "P14.3: the chart hears", p, c.Near([]int{1, 2, 5})...)
		}
		if t.Failed() {
			t.Fatalf("seed %d", seed)
		}
	}
}

// What is told of a place counts as it is heard, even if it is the place where
// this node stands.
func TestP14_3TheSamePlace(t *testing.T) {
	p := up(t, 1, 2)
	p.SkipTo(9)
	f := farOf(2)
	wantTake(t, "P14.3: a Beat", p, f, f.beat(1, 4, ownZ), "")
	wantOwn(t, "P14.3: the same place", p, ownZ)
	wantNear(t, "P14.3: the same place", p, 2, 1)
}

// A Beat that is not heard tells no echo, and moves nothing.
func TestP14_3ABeatThatIsNotHeard(t *testing.T) {
	f := farOf(1)
	p := up(t, 1)
	ticks(t, p, 3, f)
	p.Out()
	wantTake(t, "P14.3: a Beat", p, f, f.beat(55, 0, 1), "")
	for _, c := range notHeard(f) {
		if c.p.Kind == api.PBeat {
			c.p.Echo, c.p.Stamp = 2, 66
			wantTake(t, "P14.3: a Beat that is not heard", p, c.from, c.p, "")
		}
	}
	wantOwn(t, "P14.3: a Beat that is not heard", p, ownZ)
	p.Tick()
	wantOut(t, "P14.3: a Beat that is not heard", p, f.beats(4, 55, ownZ))
}

// Nor in Opening, where no Beat is heard.
func TestP14_3ABeatInOpening(t *testing.T) {
	f := farOf(1)
	p := fresh(t)
	p.SkipTo(5)
	wantTake(t, "P14.3: a Beat in Opening", p, f, f.beat(55, 4, 100), "")
	wantOwn(t, "P14.3: a Beat in Opening", p, ownZ)
	rise(t, p, f)
	p.Tick()
	if got := ofNode(sentAll(t, p.Out()), 1); !slices.Equal(got, []sent{f.beats(6, 0, ownZ)}) {
		t.Errorf("P14.3: a Beat in Opening: then %+v", clip(got))
	}
}

// Echo is the last Stamp that was heard, even a lesser one, and 0; nothing but a
// Beat changes it.
func TestP14_3EchoIsTheLastStamp(t *testing.T) {
	f := farOf(1)
	p := up(t, 1)
	for n, stamp := range []uint32{5, 9, 4, most32, 0, 1, 1, 1 << 31} {
		wantTake(t, "P14.3: a Beat", p, f, f.beat(777, 0, 1), "")
		wantTake(t, "P14.3: a Beat", p, f, f.beat(stamp, 0, 1), "")
		for _, w := range []api.Packet{f.greeting(1), f.acked(first)} {
			wantTake(t, "P14.3: no Beat", p, f, w, "")
		}
		p.Out()
		p.Tick()
		if got := ofNode(sentAll(t, p.Out()), 1); !slices.Equal(got, []sent{f.beats(uint32(n+1), stamp, ownZ)}) {
			t.Errorf("P14.3: the echo is that of %+v, not %d", clip(got), stamp)
		}
	}
}

// hears: the node tells that it stands at z, a round trip ago.
func hears(t *testing.T, p *peer.Peers, f far, z complex128) {
	t.Helper()
	p.SkipTo(100)
	wantTake(t, "P14.3: a Beat", p, f, f.beat(1, 97, z), "")
}

// What the chart knew of a node is forgotten where its link is cut, or goes
// down by the other end; what it knew of the others is not, and own stays.
func TestP14_3Forgets(t *testing.T) {
	one, two, four := farOf(1), farOf(2), farOf(4)
	for name, down := range map[string]func(p *peer.Peers) far{
		"by silence": func(p *peer.Peers) far {
			quietFor(t, "P14.2", p, 4, 11, one, two)
			return four.again()
		},
		"by a full queue": func(p *peer.Peers) far {
			for range 64 {
				wantErr(t, "P14.4: Send", p.Send(4, []byte("x")), api.OK)
			}
			wantErr(t, "P14.4: Send", p.Send(4, []byte("x")), api.ErrPeerFull)
			return four.again()
		},
		"by the other end": func(p *peer.Peers) far {
			g := four.newer().again()
			wantTake(t, "P14.3: newer", p, g, g.stranger(), "")
			return g
		},
	} {
		p := up(t, 1, 2, 4)
		hears(t, p, four, ownZ+1)
		wantNear(t, "P14.5: one is known", p, 4, 1, 2)
		hears(t, p, two, ownZ+3)
		wantNear(t, "P14.5: two are known", p, 4, 2, 1)
		own := p.Own()
		f := down(p)
		wantNear(t, "P14.5: down "+name, p, 2, 1)
		rise(t, p, f)
		wantNear(t, "P14.5: forgotten, down "+name, p, 2, 1, 4)
		wantOwn(t, "P14.5: own stays, down "+name, p, own)
		hears(t, p, f, ownZ+1)
		wantNear(t, "P14.5: heard of anew, down "+name, p, 4, 2, 1)
	}
}

// At the last token too.
func TestP14_3ForgetsAtTheLastToken(t *testing.T) {
	f := farOf(4)
	f.yours = most32
	p := up(t, 1)
	p.Wear(4, most32)
	rise(t, p, f)
	hears(t, p, f, ownZ+1)
	wantNear(t, "P14.5: known", p, 4, 1)
	ticks(t, p, 11, farOf(1))
	wantPhase(t, "P14.2: cut, at the last token", p, 4, api.Shut)
	wantNear(t, "P14.2: cut, at the last token", p, 1)
}
