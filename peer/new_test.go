package peer_test

import (
	"testing"

	"rookery/api"
	"rookery/peer"
)

func TestP14_1NoNode(t *testing.T) {
	for _, c := range [][2]int{
		{0, 0}, {1, 0}, {-1, 0}, {1, -1}, {-1, -1}, {0, -1}, {-2, -1}, {1, leastInt}, {leastInt, leastInt},
		{0, 1}, {2, 1}, {-1, 1}, {0, 2}, {3, 2}, {4, 2}, {-2, 2}, {leastInt, 2}, {mostInt, 2}, {1<<32 + 1, 2},
		{0, 64}, {65, 64}, {-64, 64}, {mostInt, 64}, {leastInt, 64},
		{1, 65}, {64, 65}, {65, 65}, {0, 65}, {66, 65}, {1, 128}, {1, 1<<32 + 1}, {1<<32 + 1, 1<<32 + 1}, {1, mostInt}, {mostInt, mostInt},
	} {
		for _, boot := range []uint32{1, 2, most32, 0} {
			if p, e := peer.New(c[0], c[1], boot); p != nil || e != api.ErrPeerNode {
				t.Errorf("P14.1: New(%d, %d, %d): %p, %d", c[0], c[1], boot, p, e)
			}
		}
	}
}

func TestP14_1BootZero(t *testing.T) {
	for n := 1; n <= 64; n++ {
		for m := 1; m <= n; m++ {
			if p, e := peer.New(m, n, 0); p != nil || e != api.ErrArg {
				t.Errorf("P14.1: New(%d, %d, 0): %p, %d", m, n, p, e)
			}
		}
	}
}

// Of each node, and each number of nodes.
func TestP14_1AllOpened(t *testing.T) {
	for n := 1; n <= 64; n++ {
		for m := 1; m <= n; m++ {
			p := made(t, m, n, ownBoot)
			var hellos []sent
			for o := 1; o <= n; o++ {
				if o == m {
					wantPhase(t, "P14.1: the node itself", p, o, 0)
					continue
				}
				wantPhase(t, "P14.1: a peer", p, o, api.Opening)
				wantQueue(t, "P14.1: a peer", p, o, 0)
				hellos = append(hellos, opens(o, 1))
			}
			wantEvents(t, "P14.1", p)
			wantUps(t, "P14.1", p)
			wantNear(t, "P14.1", p)
			wantOut(t, "P14.1: all opened", p, hellos...)
			wantOut(t, "P14.1: fetched", p)
		}
	}
}

func TestP14_1Place(t *testing.T) {
	squares := []float64{1, 4, 9, 5, 3, 3, 5, 9, 4, 1, 0}
	for m := 1; m <= 64; m++ {
		for _, n := range []int{m, 64} {
			for _, boot := range []uint32{1, 2, most32} {
				wantOwn(t, "P14.1: the place", made(t, m, n, boot), complex(float64(m), squares[(m-1)%11]))
			}
		}
	}
}

// The boot is the one that a packet must name to be meant for this node.
func TestP14_1Boot(t *testing.T) {
	for _, boot := range []uint32{1, 2, 7, most32 - 1, most32} {
		p := made(t, 1, 2, boot)
		p.Out()
		f := far{2, 9, 5, 1}
		for _, wrong := range []uint32{boot - 1, boot + 1, 7777} {
			h := f.greeting(0)
			if h.Boot = wrong; wrong == 0 {
				h = f.stranger()
			}
			wantTake(t, "P14.1: a Hello that means another boot", p, f, h, "")
			wantPhase(t, "P14.1: a Hello that means another boot", p, 2, api.Opening)
		}
		h := f.greeting(0)
		h.Boot = boot
		wantTake(t, "P14.1: a Hello that means this boot", p, f, h, "")
		wantPhase(t, "P14.1: a Hello that means this boot", p, 2, api.Up)
	}
}

// Now is 0: the first tick's stamp is 1, and an echo of 1 lies ahead of now.
func TestP14_1Now(t *testing.T) {
	f := farOf(1)
	p := up(t, 1)
	p.Tick()
	wantOut(t, "P14.1: now is 0 at first", p, f.beats(1, 0, ownZ))
	p = up(t, 1)
	wantTake(t, "P14.3: a Beat", p, f, f.beat(5, 1, 100), "")
	wantOwn(t, "P14.1: now is 0 at first, and an echo of 1 ahead of it", p, ownZ)
}

// A node without peers.
func TestP14_1Alone(t *testing.T) {
	p := made(t, 1, 1, 1)
	for range 30 {
		wantOut(t, "P14.1: alone", p)
		wantEvents(t, "P14.1: alone", p)
		wantUps(t, "P14.1: alone", p)
		wantNear(t, "P14.1: alone", p)
		wantOwn(t, "P14.1: alone", p, complex(1, 1))
		for _, n := range []int{leastInt, -1, 0, 1, 2, 64, mostInt} {
			wantErr(t, "P14.4: alone", p.Send(n, []byte("x")), api.ErrPeerNode)
			wantRefused(t, "P14.3: alone", p, n, 1, laid(t, api.Packet{Kind: api.PHello, Mine: 1}), api.ErrPeerNode)
			wantPhase(t, "P14.5: alone", p, n, 0)
			wantQueue(t, "P14.5: alone", p, n, 0)
		}
		p.Tick()
	}
}

// Each has its own end: what one hears is nothing to the others.
func TestP14_1EachItsOwn(t *testing.T) {
	for _, n := range others {
		p := up(t, n)
		for _, o := range others {
			want := api.Opening
			if o == n {
				want = api.Up
			}
			wantPhase(t, "P14.1: a link of its own", p, o, want)
		}
		wantUps(t, "P14.1: a link of its own", p, n)
	}
}
