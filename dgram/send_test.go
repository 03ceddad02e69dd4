package dgram_test

import (
	"math"
	"strings"
	"testing"

	"rookery/api"
	"rookery/dgram"
)

func TestP9_1New(t *testing.T) {
	for _, nodes := range []int{1, 2, 3, 63, 64} {
		n := made(t, nodes)
		wantState(t, "P9.1: a new net", n, &model{nodes: nodes})
		for node := 1; node <= nodes; node++ {
			wantNoTake(t, "P9.1: a new net", n, node, api.OK)
		}
		wantNoTake(t, "P9.1: behind the last node", n, nodes+1, api.ErrDgramNode)
	}
	for _, nodes := range []int{0, -1, -64, 65, 66, 1 << 32, 1<<32 + 1, math.MaxInt, math.MinInt} {
		if n, e := dgram.New(nodes); n != nil || e != api.ErrDgramNode {
			t.Errorf("P9.1: New(%d): %v, %d", nodes, n, e)
		}
	}
}

// What is sent is the last in flight, with who sent it and to whom, the next
// number, and its bytes.
func TestP9_1Send(t *testing.T) {
	n := made(t, 64)
	must(t, "P9.1: Send(1, 2)", n.Send(1, 2, []byte("abc")))
	wantFlight(t, "P9.1", n, one{1, 2, 1, "abc", false})
	must(t, "P9.1: Send(64, 1)", n.Send(64, 1, nil))
	must(t, "P9.1: Send(63, 64)", n.Send(63, 64, []byte{0}))
	must(t, "P9.1: Send(1, 2)", n.Send(1, 2, []byte("abc")))
	wantFlight(t, "P9.1", n, one{1, 2, 1, "abc", false}, one{64, 1, 2, "", false}, one{63, 64, 3, "\x00", false}, one{1, 2, 4, "abc", false})
	wantLost(t, "P9.1: Send", n, 0)
	for node := range 66 {
		wantBox(t, "P9.1: Send", n, node, 0)
	}
}

func TestP9_1SendNodes(t *testing.T) {
	numbers := []int{math.MinInt, -65, -1, 0, 1, 2, 3, 4, 5, 63, 64, 65, 1<<32 + 1, math.MaxInt}
	for _, nodes := range []int{1, 2, 3, 4, 63, 64} {
		n, m := made(t, nodes), &model{nodes: nodes}
		for _, from := range numbers {
			for _, to := range numbers {
				want := api.OK
				if from < 1 || from > nodes || to < 1 || to > nodes || from == to {
					want = api.ErrDgramNode
				}
				if got := n.Send(from, to, []byte("b")); got != want {
					t.Errorf("P9.1: Send(%d, %d) of %d nodes: %d, not %d", from, to, nodes, got, want)
				}
				m.Send(from, to, []byte("b"))
			}
		}
		wantState(t, "P9.1: Send at all kinds of nodes", n, m)
	}
}

func TestP9_1SendLengths(t *testing.T) {
	n := made(t, 2)
	for i, length := range []int{0, 1, 4, 1199, 1200, 1201, 1211, 1212} {
		b := strings.Repeat("q", length)
		must(t, "P9.1: Send", n.Send(2, 1, []byte(b)))
		if l := plainAll(n.Flight()); l[i] != (one{2, 1, uint64(i + 1), b, false}) {
			t.Errorf("P9.1: Send of %d bytes", length)
		}
	}
	for _, length := range []int{1213, 1214, 2424, 65536, 1 << 22} {
		wantErr(t, "P9.1: Send of too many bytes", n.Send(2, 1, make([]byte, length)), api.ErrDgramLong)
	}
	if l := n.Flight(); len(l) != 8 {
		t.Errorf("P9.1: what is too long is in flight: %d", len(l))
	}
}

// 1023 are in flight, one more goes, the next one is lost, and has a number.
func TestP9_1SendFull(t *testing.T) {
	n, m := filled(t, 1023)
	wantState(t, "P9.1: 1023 in flight", n, m)
	for _, b := range []string{"last", "lost", "lost"} {
		must(t, "P9.1: Send", n.Send(2, 3, []byte(b)))
		m.Send(2, 3, []byte(b))
		wantState(t, "P9.1: about 1024 in flight", n, m)
	}
	if l := n.Flight(); len(l) != 1024 || string(l[1023].B) != "last" {
		t.Errorf("P9.1: %d in flight", len(l))
	}
	wantLost(t, "P9.1: 1026 were sent", n, 2)
	must(t, "P9.2: Drop", n.Drop(0))
	must(t, "P9.1: Send", n.Send(2, 3, []byte("again")))
	if d := plain(n.Flight()[1023]); d != (one{2, 3, 1027, "again", false}) {
		t.Errorf("P9.1: behind two that were lost: %v", d)
	}
	wantLost(t, "P9.1: dropped", n, 3)
}

// What was refused has no number.
func TestP9_1Numbers(t *testing.T) {
	n := made(t, 2)
	for i := uint64(1); i <= 100; i++ {
		wantErr(t, "P9.1: Send to itself", n.Send(1, 1, nil), api.ErrDgramNode)
		wantErr(t, "P9.1: Send of 1213", n.Send(1, 2, make([]byte, 1213)), api.ErrDgramLong)
		must(t, "P9.1: Send", n.Send(1, 2, nil))
		wantFlight(t, "P9.1: numbers", n, one{1, 2, i, "", false})
		must(t, "P9.2: Twin", n.Twin(0))
		must(t, "P9.2: Drop", n.Drop(0))
		wantFlight(t, "P9.2: a twin has the same number", n, one{1, 2, i, "", false})
		must(t, "P9.2: Drop", n.Drop(0))
	}
}
