package link_test

import (
	"slices"
	"testing"

	"rookery/api"
	"rookery/link"
)

// bond: an end's own boot and token, and those of the other end.
type bond struct{ boot, mine, peer, yours uint32 }

func (b bond) turned() bond { return bond{b.peer, b.yours, b.boot, b.mine} }

type flying struct {
	to   int
	boot uint32 // the sender's
	p    api.Packet
}

// world is two ends and what is on its way between them; it keeps what was
// sent and delivered as the promise asks for it, and knows nothing of how an
// end works.
type world struct {
	boots  [2]uint32
	ends   [2]*link.Link
	tokens [2]uint32
	isUp   [2]bool
	flight []flying
	sent   [2]map[bond][]string
	got    [2]map[bond][]string
	ups    int
	came   int
}

func newWorld(t *testing.T) *world {
	t.Helper()
	w := &world{}
	for s := range 2 {
		w.sent[s], w.got[s] = map[bond][]string{}, map[bond][]string{}
		w.boot(t, s)
	}
	return w
}

func (w *world) boot(t *testing.T, s int) {
	t.Helper()
	w.boots[s]++
	w.ends[s], w.tokens[s], w.isUp[s] = made(t, w.boots[s]), 0, false
}

func (w *world) bondOf(s int) bond {
	peer, yours := w.ends[s].Peer()
	return bond{w.boots[s], w.ends[s].Token(), peer, yours}
}

// fetch: what the ends have emitted is in flight.
func (w *world) fetch() {
	for s := range 2 {
		for _, p := range w.ends[s].Out() {
			w.flight = append(w.flight, flying{1 - s, w.boots[s], p})
		}
	}
}

// watch: a token is used once, and the later one is the greater one; Phase is
// what Up and Down told.
func (w *world) watch(t *testing.T) {
	t.Helper()
	for s := range 2 {
		if token := w.ends[s].Token(); token != w.tokens[s] && token != w.tokens[s]+1 {
			t.Errorf("P11.5: behind the token %d comes %d", w.tokens[s], token)
		}
		w.tokens[s] = w.ends[s].Token()
		if (w.ends[s].Phase() == api.Up) != w.isUp[s] {
			t.Errorf("P11.3: phase %d, and Up is %v", w.ends[s].Phase(), w.isUp[s])
		}
	}
}

func (w *world) send(s int, b []byte) {
	if w.ends[s].Send(b) == api.OK {
		k := w.bondOf(s)
		w.sent[s][k] = append(w.sent[s][k], string(b))
	}
}

func (w *world) shut(t *testing.T, s int) {
	t.Helper()
	if w.ends[s].Shut() != w.isUp[s] {
		t.Errorf("P11.1: Shut does not tell whether it was Up")
	}
	w.isUp[s] = false
}

func (w *world) deliver(t *testing.T, i int) {
	t.Helper()
	f := w.flight[i]
	w.flight = slices.Delete(w.flight, i, i+1)
	was := w.ends[f.to].Token()
	got, e := w.ends[f.to].Take(f.boot, f.p)
	must(t, "P11.3: a packet that an end emitted", e)
	if got.Down && (!w.isUp[f.to] || w.ends[f.to].Token() != was+1) || got.Up && w.isUp[f.to] || got.Up && got.Down {
		t.Errorf("P11.3: Up and Down do not take turns: %+v", got)
	}
	if got.Down {
		w.isUp[f.to] = false
	}
	if got.Up {
		w.isUp[f.to] = true
		w.ups++
	}
	if len(got.Body) > 0 {
		w.delivered(t, f.to, string(got.Body))
	}
}

// delivered: it is the next of what the other one sent with these tokens.
func (w *world) delivered(t *testing.T, s int, body string) {
	t.Helper()
	k := w.bondOf(s)
	n, of := len(w.got[s][k]), w.sent[1-s][k.turned()]
	if !w.isUp[s] || n >= len(of) || of[n] != body {
		t.Errorf("P11.5: at %+v there came %d signals, and then %q, which is not the next one of %d", k, n, body, len(of))
	}
	w.got[s][k] = append(w.got[s][k], body)
	w.came++
}

// chaos: one thing happens, any.
func (w *world) chaos(t *testing.T, m maker) {
	t.Helper()
	s := m.Intn(2)
	switch m.Intn(16) {
	case 0, 1:
		w.ends[s].Open()
	case 2:
		switch m.Intn(40) {
		case 0:
			w.boot(t, s)
		case 1, 2:
			w.shut(t, s)
		}
	case 3, 4:
		for range m.Intn(6) {
			w.send(s, m.body())
		}
	case 5, 6:
		w.ends[s].Tick()
	case 7:
		w.ends[s].Beat(m.Uint32(), m.Uint32(), complex(m.NormFloat64(), 1))
	case 8:
		w.lose(m)
	default:
		if len(w.flight) > 0 {
			i := 0
			if m.Intn(2) == 0 {
				i = m.Intn(len(w.flight))
			}
			w.deliver(t, i)
		}
	}
	w.fetch()
	w.watch(t)
}

// lose: some packets are lost, some come twice.
func (w *world) lose(m maker) {
	for range min(len(w.flight), m.Intn(4)) {
		i := m.Intn(len(w.flight))
		if m.Intn(2) == 0 {
			w.flight = slices.Delete(w.flight, i, i+1)
		} else if len(w.flight) < 400 {
			w.flight = append(w.flight, w.flight[i])
		}
	}
}

// round: both tick, and all that is in flight then comes, in order.
func (w *world) round(t *testing.T) {
	t.Helper()
	for s := range 2 {
		w.ends[s].Tick()
	}
	for range len(w.flight) {
		w.deliver(t, 0)
		w.fetch()
	}
	w.fetch()
	w.watch(t)
}

// settles: with nothing lost both get up, and stay so, and the queues run
// empty; then all came that was sent while they were up with these tokens.
func (w *world) settles(t *testing.T) {
	t.Helper()
	for s := range 2 {
		w.ends[s].Open()
	}
	w.fetch()
	w.watch(t)
	for n := range 64 {
		w.round(t)
		if n >= 15 && !(w.isUp[0] && w.isUp[1]) {
			t.Fatalf("P11.5: behind %d rounds the phases are %d and %d", n+1, w.ends[0].Phase(), w.ends[1].Phase())
		}
	}
	for s := range 2 {
		k := w.bondOf(s)
		if w.bondOf(1-s) != k.turned() {
			t.Errorf("P11.5: Up with %+v, the other end with %+v", k, w.bondOf(1-s))
		}
		wantQueue(t, "P11.5: behind 64 rounds", w.ends[s], 0)
		if !slices.Equal(w.got[1-s][k.turned()], w.sent[s][k]) {
			t.Errorf("P11.5: %d were sent, %d came", len(w.sent[s][k]), len(w.got[1-s][k.turned()]))
		}
	}
}

func TestP11_5Chaos(t *testing.T) {
	ups, came := 0, 0
	for seed := range int64(400) {
		m, w := newMaker(seed), newWorld(t)
		for range 4 {
			for a := range 250 {
				w.chaos(t, m)
				if t.Failed() {
					t.Fatalf("seed %d, act %d", seed, a)
				}
			}
			w.settles(t)
			if t.Failed() {
				t.Fatalf("seed %d", seed)
			}
		}
		ups, came = ups+w.ups, came+w.came
	}
	if ups < 2000 || came < 40000 {
		t.Errorf("too little happened: %d ups, %d signals", ups, came)
	}
}

// One world that goes on for long, so that there is much that is old in flight.
func TestP11_5LongChaos(t *testing.T) {
	m, w := newMaker(5000), newWorld(t)
	for range 60000 {
		w.chaos(t, m)
	}
	w.settles(t)
}

// Every second packet is lost, again and again: what comes, comes in order, and
// in the end all of it.
func TestP11_5HalfIsLost(t *testing.T) {
	m, w := newMaker(6000), newWorld(t)
	w.settles(t)
	want := [2][]string{}
	for range 3000 {
		for s := range 2 {
			b := m.body()
			if w.ends[s].Queue() < 64 {
				want[s] = append(want[s], string(b))
			}
			w.send(s, b)
		}
		w.fetch()
		w.flight = slices.DeleteFunc(w.flight, func(flying) bool { return m.Intn(2) == 0 })
		w.round(t)
	}
	w.settles(t)
	for s := range 2 {
		k := w.bondOf(1 - s)
		if k.mine != 1 || k.yours != 1 || !slices.Equal(w.got[1-s][k], want[s]) || len(want[s]) < 500 {
			t.Errorf("P11.5: %d were sent, %d came, tokens %d and %d", len(want[s]), len(w.got[1-s][k]), k.mine, k.yours)
		}
	}
}

// Nothing is lost: both are Up in few rounds, and the queues run empty, whoever
// is opened first, by how much.
func TestP11_5FewRounds(t *testing.T) {
	for wait := range 12 {
		w := newWorld(t)
		w.ends[0].Open()
		w.fetch()
		for range wait {
			w.round(t)
		}
		w.ends[1].Open()
		w.fetch()
		for range 6 {
			w.round(t)
		}
		if !w.isUp[0] || !w.isUp[1] {
			t.Errorf("P11.5: behind six rounds: %d, %d (%d)", w.ends[0].Phase(), w.ends[1].Phase(), wait)
		}
		for i := range 64 {
			w.send(0, signal(i))
			w.send(1, signal(i))
		}
		w.fetch()
		for range 20 {
			w.round(t)
		}
		wantQueue(t, "P11.5: behind 20 rounds", w.ends[0], 0)
		wantQueue(t, "P11.5: behind 20 rounds", w.ends[1], 0)
		w.settles(t)
	}
}

// Packets one by one in the order in which they were emitted: three Hellos each
// way at most.
func TestP11_5ThreeHellos(t *testing.T) {
	w := newWorld(t)
	w.ends[0].Open()
	w.ends[1].Open()
	hellos := [2]int{}
	for w.fetch(); len(w.flight) > 0; w.fetch() {
		hellos[w.flight[0].to]++
		w.deliver(t, 0)
	}
	if !w.isUp[0] || !w.isUp[1] || hellos[0] > 3 || hellos[1] > 3 {
		t.Errorf("the example: phases %d, %d behind %v Hellos", w.ends[0].Phase(), w.ends[1].Phase(), hellos)
	}
}

// What is late from a last attempt does nothing in the next one.
func TestP11_5LateData(t *testing.T) {
	w := newWorld(t)
	w.settles(t)
	for i := range 8 {
		w.send(0, signal(i))
	}
	w.fetch()
	late := slices.Clone(w.flight)
	w.settles(t)
	w.shut(t, 1)
	w.settles(t)
	if w.ends[0].Token() != 2 || w.ends[1].Token() != 2 {
		t.Fatalf("P11.5: tokens %d and %d", w.ends[0].Token(), w.ends[1].Token())
	}
	came := w.came
	w.flight = append(w.flight, late...)
	w.settles(t)
	if w.came != came || w.ends[0].Token() != 2 || w.ends[1].Token() != 2 {
		t.Errorf("P11.5: late Data did something: %d came", w.came-came)
	}
}
