package dgram_test

import (
	"math"
	"testing"

	"rookery/api"
)

func TestP9_3Take(t *testing.T) {
	n, m := boxed(t, 64)
	for k := range 64 {
		wantBox(t, "P9.3: Take", n, 2, 64-k)
		want, _, _ := m.Take(2)
		wantTake(t, "P9.3: Take", n, 2, want)
		wantNoTake(t, "P9.3: the box beside", n, 1, api.OK)
		wantNoTake(t, "P9.3: the box beside", n, 3, api.OK)
	}
	wantNoTake(t, "P9.3: an empty box", n, 2, api.OK)
	wantState(t, "P9.3: all taken", n, m)
	wantLost(t, "P9.3: what is taken is not lost", n, 0)
}

// A datagram in flight is not in the box yet.
func TestP9_3TakeInFlight(t *testing.T) {
	n, m := filled(t, 3)
	wantNoTake(t, "P9.3: three in flight", n, 2, api.OK)
	wantState(t, "P9.3: three in flight", n, m)
}

func TestP9_3NoNode(t *testing.T) {
	n, m := boxed(t, 10)
	for _, node := range []int{math.MinInt, -2, -1, 0, 4, 5, 64, 65, 1<<32 + 2, math.MaxInt} {
		wantNoTake(t, "P9.3: no node", n, node, api.ErrDgramNode)
		wantBox(t, "P9.3: no node", n, node, 0)
		wantErr(t, "P9.3: Wipe of no node", n.Wipe(node), api.ErrDgramNode)
	}
	wantState(t, "P9.3: no node", n, m)
	wantEmptied(t, "P9.3: no node", n, m)
}

func TestP9_3LastNode(t *testing.T) {
	for _, nodes := range []int{2, 3, 63, 64} {
		n := made(t, nodes)
		n.Send(1, nodes, []byte("far"))
		n.Send(1, nodes, []byte("off"))
		n.Deliver(0)
		n.Deliver(0)
		wantBox(t, "P9.3: the last node", n, nodes, 2)
		wantBox(t, "P9.3: behind the last node", n, nodes+1, 0)
		wantTake(t, "P9.3: the last node", n, nodes, one{1, nodes, 1, "far", false})
		wantNoTake(t, "P9.3: behind the last node", n, nodes+1, api.ErrDgramNode)
		wantErr(t, "P9.3: Wipe behind the last node", n.Wipe(nodes+1), api.ErrDgramNode)
		must(t, "P9.3: Wipe of the last node", n.Wipe(nodes))
		wantBox(t, "P9.3: wiped", n, nodes, 0)
	}
}

func TestP9_3Wipe(t *testing.T) {
	for _, count := range []int{0, 1, 2, 63, 64} {
		n, m := boxed(t, count)
		n.Send(2, 3, []byte("beside"))
		n.Deliver(0)
		n.Send(3, 2, []byte("in flight"))
		for range 2 {
			must(t, "P9.3: Wipe", n.Wipe(2))
			wantBox(t, "P9.3: wiped", n, 2, 0)
			wantNoTake(t, "P9.3: wiped", n, 2, api.OK)
			wantLost(t, "P9.3: wiped", n, len(m.boxes[2]))
		}
		later := uint64(count + 2)
		wantFlight(t, "P9.3: Wipe leaves what is in flight", n, one{3, 2, later, "in flight", false})
		wantTake(t, "P9.3: Wipe leaves the box beside", n, 3, one{2, 3, later - 1, "beside", false})
		n.Deliver(0)
		wantTake(t, "P9.3: what comes into a wiped box", n, 2, one{3, 2, later, "in flight", false})
		must(t, "P9.3: Wipe", n.Wipe(2))
		wantLost(t, "P9.3: an empty box was wiped", n, count)
	}
}

// A box that was wiped has room for 64 again, and Take has no part of it.
func TestP9_3WipeAndFill(t *testing.T) {
	n, m := boxed(t, 64)
	n.Wipe(2)
	m.Wipe(2)
	for range 65 {
		n.Send(1, 2, []byte("new"))
		m.Send(1, 2, []byte("new"))
		n.Deliver(0)
		m.Deliver(0)
	}
	wantState(t, "P9.3: filled anew", n, m)
	wantLost(t, "P9.3: filled anew", n, 65)
	wantEmptied(t, "P9.3: filled anew", n, m)
}

// Lost counts each one that is lost, in each of the five ways.
func TestP9_3Lost(t *testing.T) {
	n, m := filled(t, 1024)
	wantLost(t, "P9.3: 1024 in flight", n, 0)
	n.Send(1, 2, nil)
	wantLost(t, "P9.3: sent, with 1024 in flight", n, 1)
	n.Twin(3)
	wantLost(t, "P9.3: twinned, with 1024 in flight", n, 2)
	n.Drop(3)
	wantLost(t, "P9.3: dropped", n, 3)
	for range 65 {
		n.Deliver(0)
	}
	wantLost(t, "P9.3: delivered, with 64 in the box", n, 4)
	n.Wipe(2)
	wantLost(t, "P9.3: wiped", n, 68)
	wantErr(t, "P9.1: Send", n.Send(0, 1, nil), api.ErrDgramNode)
	wantErr(t, "P9.1: Send", n.Send(2, 1, make([]byte, 1213)), api.ErrDgramLong)
	wantErr(t, "P9.2: Drop", n.Drop(-1), api.ErrDgramNone)
	wantErr(t, "P9.2: Deliver", n.Deliver(1024), api.ErrDgramNone)
	must(t, "P9.2: Spoil", n.Spoil(0, 0, 1))
	wantErr(t, "P9.2: Spoil", n.Spoil(0, 0, 1), api.ErrDgramTwice)
	n.Deliver(0)
	n.Take(2)
	n.Take(2)
	wantLost(t, "P9.3: what was refused, spoilt or taken is not lost", n, 68)
	if l := n.Flight(); len(l) != len(m.flight)-67 {
		t.Errorf("P9.2: %d in flight", len(l))
	}
}

func TestExamples(t *testing.T) {
	n := made(t, 2)
	must(t, "the example's Send", n.Send(1, 2, []byte("a")))
	must(t, "the example's Twin", n.Twin(0))
	must(t, "the example's Deliver", n.Deliver(0))
	wantTake(t, "the example", n, 2, one{1, 2, 1, "a", false})
	wantFlight(t, "the example", n, one{1, 2, 1, "a", false})
	wantErr(t, "the example's Send(1, 1, a)", n.Send(1, 1, []byte("a")), api.ErrDgramNode)
}
