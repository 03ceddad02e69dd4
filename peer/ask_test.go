package peer_test

import (
	"slices"
	"testing"

	"rookery/api"
	"rookery/pack"
	"rookery/peer"
)

// Out tells peer by peer, each in order, whatever came first; then it is gone.
func TestP14_5Out(t *testing.T) {
	p := up(t, 1, 2, 4, 5)
	for i := range 3 {
		for _, n := range []int{5, 2, 4, 1} {
			wantErr(t, "P14.4: Send", p.Send(n, []byte(signal(i))), api.OK)
		}
	}
	wantTake(t, "P14.3: Data", p, farOf(4), farOf(4).data(first, "x"), "x")
	var want []sent
	for _, n := range others {
		f := farOf(n)
		for i := range 3 {
			want = append(want, f.sends(first+uint32(i), signal(i)))
		}
		if n == 4 {
			want = append(want, f.acks(first+1))
		}
	}
	wantOut(t, "P14.5: Out", p, want...)
	wantOut(t, "P14.5: Out, asked again", p)
	p.Tick()
	b := farOf(4).beats(1, 0, ownZ)
	b.ack++
	wantOut(t, "P14.5: Out, of a tick", p, farOf(1).beats(1, 0, ownZ), farOf(2).beats(1, 0, ownZ), b, farOf(5).beats(1, 0, ownZ))
	wantOut(t, "P14.5: Out, asked again", p)
}

// A body is what pack.Encode lays, of each kind.
func TestP14_5OutsBodies(t *testing.T) {
	f := farOf(2)
	p := fresh(t)
	for _, w := range []api.Packet{f.stranger(), f.greeting(0), f.data(first, "x")} {
		p.Take(2, f.boot, laid(t, w))
	}
	wantErr(t, "P14.4: Send", p.Send(2, bytesOf(1000)), api.OK)
	p.Tick()
	want := []api.Packet{
		{Kind: api.PHello, Mine: 1, Boot: f.boot, Yours: f.mine},
		{Kind: api.PHello, Mine: 1, Boot: f.boot, Yours: f.mine, Seq: 1},
		{Kind: api.PAck, Mine: 1, Boot: f.boot, Yours: f.mine, Ack: first + 1},
		{Kind: api.PData, Mine: 1, Boot: f.boot, Yours: f.mine, Seq: first, Ack: first + 1, Body: bytesOf(1000)},
		{Kind: api.PBeat, Mine: 1, Boot: f.boot, Yours: f.mine, Ack: first + 1, Stamp: 1, Z: ownZ},
	}
	got := p.Out()
	if len(got) != len(want) {
		t.Fatalf("P14.5: Out tells %d", len(got))
	}
	for i, w := range want {
		b, _ := pack.Encode(w)
		if got[i].To != 2 || string(got[i].Body) != string(b) {
			t.Errorf("P14.5: Out tells %d, %x, not %x", got[i].To, got[i].Body, b)
		}
	}
}

// An end keeps 1024 at most.
func TestP14_5OutIsFull(t *testing.T) {
	p := up(t, 1, 4)
	ticks(t, p, 1100, farOf(1), farOf(4))
	got := sentAll(t, p.Out())
	one, four := ofNode(got, 1), ofNode(got, 4)
	if len(one) != 1024 || len(four) != 1024 || one[1023] != farOf(1).beats(1024, 0, ownZ) {
		t.Errorf("P14.5: Out tells %d and %d", len(one), len(four))
	}
	ticks(t, p, 1)
	if got := ofNode(sentAll(t, p.Out()), 4); !slices.Equal(got, []sent{farOf(4).beats(1101, 0, ownZ)}) {
		t.Errorf("P14.5: then %+v", clip(got))
	}
}

// Events are told once, in their order, whichever peer's they are.
func TestP14_5Events(t *testing.T) {
	p := fresh(t)
	wantEvents(t, "P14.5: none", p)
	for _, n := range []int{4, 1, 5} {
		wantTake(t, "P14.3: a Hello", p, farOf(n), farOf(n).greeting(0), "")
	}
	wantEvents(t, "P14.5: in their order", p, rose(4), rose(1), rose(5))
	wantEvents(t, "P14.5: asked again", p)
	g := farOf(5).newer().again()
	wantTake(t, "P14.3: newer", p, g, g.stranger(), "")
	wantTake(t, "P14.3: a Hello", p, farOf(2), farOf(2).greeting(0), "")
	ticks(t, p, 11)
	wantTake(t, "P14.3: a Hello", p, g, g.greeting(0), "")
	wantEvents(t, "P14.5: many", p, fell(5), rose(2), fell(1), fell(2), fell(4), rose(5))
	wantEvents(t, "P14.5: asked again", p)
}

// Ups and Near of none, one and many links.
func TestP14_5Ups(t *testing.T) {
	p := fresh(t)
	wantUps(t, "P14.5: none", p)
	wantNear(t, "P14.5: none", p)
	var want []int
	for _, n := range []int{4, 1, 5, 2} {
		rise(t, p, farOf(n))
		want = append(want, n)
		slices.Sort(want)
		wantUps(t, "P14.5: by rising numbers", p, want...)
		wantNear(t, "P14.5: none is heard of", p, want...)
	}
}

// Near: those that are heard of, the nearest first, then the others; of those
// that are not Up none, though they were heard of.
func TestP14_5Near(t *testing.T) {
	p := up(t, others...)
	hears(t, p, farOf(5), complex(100, 0))
	wantNear(t, "P14.5: one is heard of", p, 5, 1, 2, 4)
	hears(t, p, farOf(2), complex(0, 50))
	wantNear(t, "P14.5: two are heard of", p, 2, 5, 1, 4)
	hears(t, p, farOf(4), complex(4, 8))
	wantNear(t, "P14.5: three are heard of", p, 4, 2, 5, 1)
	hears(t, p, farOf(1), complex(0, 50))
	wantNear(t, "P14.5: all are heard of", p, 4, 1, 2, 5)
	hears(t, p, farOf(4), complex(1e200, 0))
	wantNear(t, "P14.5: one is infinitely far", p, 1, 2, 5, 4)
	ticks(t, p, 11, farOf(4), farOf(2))
	wantNear(t, "P14.5: two are down", p, 2, 4)
	wantUps(t, "P14.5: two are down", p, 2, 4)
}

// Own is this node's place, and changes with what the chart hears.
func TestP14_5Own(t *testing.T) {
	p, c := up(t, 1, 2), charted(t)
	for i := range 50 {
		f, z := farOf(1+i%2), complex(float64(10*i), -3)
		hears(t, p, f, z)
		wantErr(t, "P13.1: Hear", c.Hear(f.node, z, 3), api.OK)
		wantOwn(t, "P14.5: Own", p, c.Own())
	}
	own := p.Own()
	ticks(t, p, 30)
	wantOwn(t, "P14.5: Own behind cuts", p, own)
}

// Queue and Phase of each peer, and of what is none.
func TestP14_5QueueAndPhase(t *testing.T) {
	p := up(t, 2, 4)
	for i := range 9 {
		wantErr(t, "P14.4: Send", p.Send(4, []byte(signal(i))), api.OK)
		wantErr(t, "P14.4: Send", p.Send(2, []byte(signal(i))), api.OK)
	}
	wantTake(t, "P14.3: an Ack", p, farOf(2), farOf(2).acked(first+4), "")
	for n, want := range map[int][2]int{1: {api.Opening, 0}, 2: {api.Up, 5}, 4: {api.Up, 9}, 5: {api.Opening, 0}} {
		wantPhase(t, "P14.5: of a peer", p, n, want[0])
		wantQueue(t, "P14.5: of a peer", p, n, want[1])
	}
	for _, n := range noPeers {
		wantPhase(t, "P14.5: of no peer", p, n, 0)
		wantQueue(t, "P14.5: of no peer", p, n, 0)
	}
}

// The chapter's examples.
func TestP14_5Examples(t *testing.T) {
	a, b := made(t, 1, 2, 1), made(t, 2, 2, 1)
	left := 1
	for n := 0; left > 0; n++ {
		left = 0
		for _, o := range a.Out() {
			left++
			if _, e := b.Take(1, 1, o.Body); o.To != 2 || e != api.OK {
				t.Fatalf("P14.5: to %d, %d", o.To, e)
			}
		}
		for _, o := range b.Out() {
			left++
			if _, e := a.Take(2, 1, o.Body); o.To != 1 || e != api.OK {
				t.Fatalf("P14.5: to %d, %d", o.To, e)
			}
		}
		if n > 20 {
			t.Fatal("P14.5: packets without end")
		}
	}
	wantEvents(t, "the example", a, rose(2))
	wantEvents(t, "the example", b, rose(1))
	for _, p := range []*peer.Peers{a, b} {
		ticks(t, p, 10)
		wantEvents(t, "the example, ten ticks", p)
		p.Tick()
	}
	wantEvents(t, "the example", a, fell(2))
	wantEvents(t, "the example", b, fell(1))
}
