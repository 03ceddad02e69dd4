package dgram_test

import (
	"testing"

	"rookery/api"
	"rookery/dgram"
)

// book keeps what was sent by its number, and what was taken, as the promise
// asks for it; it knows nothing of how a net works.
type book struct {
	sent   []one // the one with the number k stands at k - 1
	taken  map[uint64]int
	takes  int
	twins  int
	noTwin bool
}

func (k *book) take(t *testing.T, d api.Datagram, node int) {
	t.Helper()
	k.takes++
	if d.N < 1 || d.N > uint64(len(k.sent)) {
		t.Fatalf("P9.4: the number %d was not sent", d.N)
	}
	was := k.sent[d.N-1]
	if was.to != node || d.To != node || d.From != was.from {
		t.Errorf("P9.4: %d from %d to %d was taken at %d as from %d to %d", d.N, was.from, was.to, node, d.From, d.To)
	}
	if !d.Spoilt && string(d.B) != was.b {
		t.Errorf("P9.4: %d is not spoilt, and has other bytes", d.N)
	}
	if !fourAtMost(was.b, string(d.B)) {
		t.Errorf("P9.4: %d is spoilt in more than four bytes", d.N)
	}
	k.taken[d.N]++
	if k.noTwin && k.taken[d.N] > 1 {
		t.Errorf("P9.4: %d was taken %d times", d.N, k.taken[d.N])
	}
}

// fourAtMost: are a and b one, but for at most four bytes in a row?
func fourAtMost(a, b string) bool {
	if len(a) != len(b) {
		return false
	}
	first, last := len(a), -1
	for i := range len(a) {
		if a[i] != b[i] {
			first, last = min(first, i), i
		}
	}
	return last-first < 4
}

// wantAll: what was sent and twinned is in flight, in a box, taken, or lost.
func (k *book) wantAll(t *testing.T, n *dgram.Net) {
	t.Helper()
	sum := len(n.Flight()) + k.takes + n.Lost()
	for node := range 66 {
		sum += n.Box(node)
	}
	if sum != len(k.sent)+k.twins {
		t.Errorf("P9.4: %d were sent and %d twinned; %d are somewhere", len(k.sent), k.twins, sum)
	}
}

// act does one thing to n, and the same to m, and writes down what came of it.
func (k *book) act(t *testing.T, r maker, n *dgram.Net, m *model) {
	t.Helper()
	i, node := r.near(len(m.flight)), 1+r.near(m.nodes)
	kind := r.Intn(14)
	if k.noTwin && kind == 6 {
		kind = 0
	}
	switch kind {
	default:
		to, b := 1+r.near(m.nodes), r.some()
		e := n.Send(node, to, b)
		wantErr(t, "P9.1: Send", e, m.Send(node, to, b))
		if e == api.OK {
			k.sent = append(k.sent, one{node, to, uint64(len(k.sent) + 1), string(b), false})
		}
	case 3, 4:
		wantErr(t, "P9.2: Deliver", n.Deliver(i), m.Deliver(i))
	case 5:
		wantErr(t, "P9.2: Drop", n.Drop(i), m.Drop(i))
	case 6:
		e := n.Twin(i)
		wantErr(t, "P9.2: Twin", e, m.Twin(i))
		if e == api.OK {
			k.twins++
		}
	case 7, 8:
		at, mask := r.near(14), r.mask()
		wantErr(t, "P9.2: Spoil", n.Spoil(i, at, mask), m.Spoil(i, at, mask))
	case 9, 10:
		k.takeBoth(t, n, m, node)
	case 11:
		if r.Intn(20) == 0 {
			wantErr(t, "P9.3: Wipe", n.Wipe(node), m.Wipe(node))
		}
	}
}

func (k *book) takeBoth(t *testing.T, n *dgram.Net, m *model, node int) {
	t.Helper()
	want, wantOk, wantE := m.Take(node)
	d, ok, e := n.Take(node)
	if plain(d) != want || ok != wantOk || e != wantE {
		t.Errorf("P9.3: Take(%d): %v, %v, %d, not %v, %v, %d", node, clip([]one{plain(d)}), ok, e, clip([]one{want}), wantOk, wantE)
	}
	if ok {
		k.take(t, d, node)
	}
}

func script(t *testing.T, seed int64, nodes, acts int, noTwin bool) {
	t.Helper()
	r := newMaker(seed)
	n, m := made(t, nodes), &model{nodes: nodes}
	k := &book{taken: map[uint64]int{}, noTwin: noTwin}
	for a := range acts {
		k.act(t, r, n, m)
		if t.Failed() {
			t.Fatalf("seed %d, act %d", seed, a)
		}
		if a%50 == 0 {
			wantState(t, "P9.4: a script", n, m)
			k.wantAll(t, n)
		}
	}
	for range len(m.flight) {
		n.Deliver(0)
		m.Deliver(0)
	}
	for node := 1; node <= nodes; node++ {
		for range len(m.boxes[node]) {
			k.takeBoth(t, n, m, node)
		}
	}
	wantState(t, "P9.4: a script's end", n, m)
	k.wantAll(t, n)
}

func TestP9_4Scripts(t *testing.T) {
	for seed := range int64(150) {
		script(t, seed, 2+int(seed)%4, 300, false)
		script(t, seed, 2+int(seed)%63, 300, true)
	}
	script(t, 1000, 3, 8000, false)
	script(t, 1001, 64, 8000, false)
	script(t, 1002, 2, 8000, true)
}

// One node alone: nothing can be sent.
func TestP9_4OneNode(t *testing.T) {
	r := newMaker(77)
	n, m, k := made(t, 1), &model{nodes: 1}, &book{taken: map[uint64]int{}}
	for range 2000 {
		k.act(t, r, n, m)
	}
	wantState(t, "P9.4: one node alone", n, m)
	if len(k.sent) != 0 {
		t.Errorf("P9.4: %d were sent", len(k.sent))
	}
}
