package peer_test

import (
	"cmp"
	"slices"
	"testing"

	"rookery/api"
	"rookery/pack"
	"rookery/peer"
)

// flying: a body on its way.
type flying struct {
	from, to int
	boot     uint32 // the sender's
	body     []byte
}

// bond: with which attempts a link is up: the own boot and token, and those of
// the other end.
type bond struct{ boot, token, peer, yours uint32 }

func (b bond) turned() bond { return bond{b.peer, b.yours, b.boot, b.token} }

// seen: a link as it can be told from outside; quiet: how many ticks ago a
// word of it came.
type seen struct {
	up    bool
	with  bond
	quiet int
}

// route: from a node to another one, in one link.
type route struct {
	from, to int
	with     bond
}

// world is nodes and what is on its way between them. It knows of them what
// they tell, and nothing of how they work.
type world struct {
	nodes     []*peer.Peers // from 1 on
	boots     []uint32
	links     [][]seen // links[a][b]: as a sees b
	flight    []flying
	sent, got map[route][]string
	ups       int
	came      int
	quiets    int
	fulls     int
	others    int // downs by the other end
}

func newWorld(t *testing.T, n int) *world {
	t.Helper()
	w := &world{nodes: make([]*peer.Peers, n+1), boots: make([]uint32, n+1), links: make([][]seen, n+1),
		sent: map[route][]string{}, got: map[route][]string{}}
	for a := 1; a <= n; a++ {
		w.boot(t, a)
	}
	return w
}

func (w *world) count() int { return len(w.nodes) - 1 }

// boot: a node begins anew, with the next boot.
func (w *world) boot(t *testing.T, a int) {
	t.Helper()
	w.boots[a]++
	w.nodes[a] = made(t, a, w.count(), w.boots[a])
	w.links[a] = make([]seen, len(w.nodes))
	w.fetch(a)
}

// fetch: what a node gives out is in flight.
func (w *world) fetch(a int) {
	for _, o := range w.nodes[a].Out() {
		w.flight = append(w.flight, flying{a, o.To, w.boots[a], o.Body})
	}
}

// told: what comes next in a's events is this alone.
func (w *world) told(t *testing.T, what string, a int, want ...api.Event) {
	t.Helper()
	wantEvents(t, "P14.6: "+what, w.nodes[a], want...)
	for _, e := range want {
		if w.links[a][e.Node].up == e.Up {
			t.Errorf("P14.6: up and down do not take turns in the events of %d: %v", a, e)
		}
		w.links[a][e.Node].up = e.Up
	}
	var ups []int
	for b := range w.links[a] {
		if w.links[a][b].up {
			ups = append(ups, b)
		}
	}
	wantUps(t, "P14.6: "+what, w.nodes[a], ups...)
}

// tick: those links are cut that were quiet for too long, and no other.
func (w *world) tick(t *testing.T, a int) {
	t.Helper()
	var want []api.Event
	for b := range w.links[a] {
		l := &w.links[a][b]
		l.quiet++
		if l.up && l.quiet > 10 {
			want = append(want, fell(b))
		}
	}
	w.quiets += len(want)
	w.nodes[a].Tick()
	w.told(t, "a tick", a, want...)
	w.fetch(a)
}

// send: a link goes down by it only if its queue is full.
func (w *world) send(t *testing.T, a, b int, body []byte) {
	t.Helper()
	l, full := w.links[a][b], w.nodes[a].Queue(b) == 64
	e := w.nodes[a].Send(b, body)
	switch {
	case !l.up:
		wantErr(t, "P14.4: Send to one that is down", e, api.ErrPeerDown)
		w.told(t, "Send to one that is down", a)
	case full:
		wantErr(t, "P14.4: Send to a full queue", e, api.ErrPeerFull)
		w.told(t, "Send to a full queue", a, fell(b))
		w.fulls++
	default:
		wantErr(t, "P14.4: Send", e, api.OK)
		w.told(t, "Send", a)
		r := route{a, b, l.with}
		w.sent[r] = append(w.sent[r], string(body))
	}
	w.fetch(a)
}

// deliver: the i-th in flight comes.
func (w *world) deliver(t *testing.T, i int) {
	t.Helper()
	f := w.flight[i]
	w.flight = slices.Delete(w.flight, i, i+1)
	p, _ := pack.Decode(f.body)
	l := &w.links[f.to][f.from]
	body, e := w.nodes[f.to].Take(f.from, f.boot, f.body)
	wantErr(t, "P14.3: what a node gave out", e, api.OK)
	isWord := l.with == bond{p.Boot, p.Yours, f.boot, p.Mine}
	age := cmp.Or(cmp.Compare(f.boot, l.with.peer), cmp.Compare(p.Mine, l.with.yours))
	switch {
	case l.up && p.Kind == api.PHello && age > 0:
		w.told(t, "the other end begins anew", f.to, fell(f.from))
		w.others++
	case l.up:
		w.told(t, "a packet of a link that is up", f.to)
		if isWord || p.Kind == api.PHello && age == 0 {
			l.quiet = 0
		}
	case w.nodes[f.to].Phase(f.from) == api.Up:
		w.told(t, "a Hello", f.to, rose(f.from))
		if l.with = (bond{p.Boot, p.Yours, f.boot, p.Mine}); p.Kind != api.PHello || p.Boot != w.boots[f.to] {
			t.Errorf("P14.6: up by a packet of kind %d, meant for boot %d", p.Kind, p.Boot)
		}
		l.quiet = 0
		w.ups++
	default:
		w.told(t, "a packet of a link that is not up", f.to)
	}
	if len(body) > 0 {
		w.delivered(t, f, isWord && l.up, string(body))
	}
	w.fetch(f.to)
}

// delivered: it is the next of what was sent in that link.
func (w *world) delivered(t *testing.T, f flying, isWord bool, body string) {
	t.Helper()
	r := route{f.from, f.to, w.links[f.to][f.from].with.turned()}
	n, of := len(w.got[r]), w.sent[r]
	if !isWord || n >= len(of) || of[n] != body {
		t.Errorf("P14.3: from %d to %d there came %d signals, and then %q, which is not the next one of %d", f.from, f.to, n, body, len(of))
	}
	w.got[r] = append(w.got[r], body)
	w.came++
}

// mood: how a world goes, in parts of a hundred, and whether bodies come in
// order.
type mood struct {
	tick, send, deliver, lose, twin, boot, flood int
	inOrder                                      bool
}

var moods = []mood{
	{tick: 12, send: 15, deliver: 60, lose: 6, twin: 6, boot: 1},
	{tick: 4, send: 10, deliver: 84, lose: 1, twin: 1, inOrder: true},
	{tick: 30, send: 4, deliver: 24, lose: 40, twin: 2},
	{tick: 2, send: 50, deliver: 30, lose: 10, twin: 5, flood: 3},
	{tick: 10, send: 5, deliver: 45, lose: 20, twin: 10, boot: 10},
}

// chaos: one thing happens.
func (w *world) chaos(t *testing.T, k maker, m mood) {
	t.Helper()
	a, b := 1+k.Intn(w.count()), 1+k.Intn(w.count())
	n := k.Intn(100)
	i := 0
	if len(w.flight) > 0 && !m.inOrder {
		i = k.Intn(len(w.flight))
	}
	for _, c := range []struct {
		part int
		do   func()
	}{
		{m.tick, func() { w.tick(t, a) }},
		{m.send, func() { w.sends(t, k, a, b, 1+k.Intn(3)) }},
		{m.flood, func() { w.sends(t, k, a, b, 70) }},
		{m.boot, func() { w.boot(t, a) }},
		{m.deliver, func() { w.moves(t, i, 'd') }},
		{m.lose, func() { w.moves(t, i, 'l') }},
		{m.twin, func() { w.moves(t, i, 't') }},
	} {
		if n -= c.part; n < 0 {
			c.do()
			return
		}
	}
}

func (w *world) sends(t *testing.T, k maker, a, b, n int) {
	t.Helper()
	for range n {
		if a != b {
			w.send(t, a, b, k.body())
		}
	}
}

// moves: the i-th in flight comes, is lost, or comes twice.
func (w *world) moves(t *testing.T, i int, how rune) {
	t.Helper()
	switch {
	case len(w.flight) == 0:
	case how == 'd':
		w.deliver(t, i)
	case how == 'l' || len(w.flight) > 500:
		w.flight = slices.Delete(w.flight, i, i+1)
	default:
		w.flight = append(w.flight, w.flight[i])
	}
}

// round: all tick, and all that is in flight then comes, in order.
func (w *world) round(t *testing.T) {
	t.Helper()
	for a := 1; a <= w.count(); a++ {
		w.tick(t, a)
	}
	for range len(w.flight) {
		w.deliver(t, 0)
	}
}

// settles: with nothing lost all get up, with each other, and stay so, and the
// queues run empty.
func (w *world) settles(t *testing.T) {
	t.Helper()
	for range 40 {
		w.round(t)
	}
	ups := w.ups
	for range 40 {
		w.round(t)
	}
	for a := 1; a <= w.count(); a++ {
		for b := 1; b <= w.count(); b++ {
			l := w.links[a][b]
			if a != b && (!l.up || w.links[b][a].with != l.with.turned() || w.nodes[a].Queue(b) != 0) {
				t.Errorf("P14.6: behind 80 rounds %d sees %d so: %+v, the other one %+v, in the queue %d", a, b, l, w.links[b][a], w.nodes[a].Queue(b))
			}
			r := route{a, b, l.with}
			if !slices.Equal(w.sent[r], w.got[r]) {
				t.Errorf("P14.6: of %d signals from %d to %d there came %d", len(w.sent[r]), a, b, len(w.got[r]))
			}
		}
	}
	if ups != w.ups {
		t.Error("P14.6: a link went down though nothing was lost")
	}
}

func TestP14_6Chaos(t *testing.T) {
	sum := world{}
	for seed := range int64(200) {
		k := newMaker(seed + 1000)
		w := newWorld(t, 2+k.Intn(4))
		for part := range 4 {
			m := moods[(int(seed)+part*part)%len(moods)]
			for n := range 400 {
				w.chaos(t, k, m)
				if t.Failed() {
					t.Fatalf("seed %d, part %d, act %d", seed, part, n)
				}
			}
			w.settles(t)
			if t.Failed() {
				t.Fatalf("seed %d, part %d", seed, part)
			}
		}
		sum.ups, sum.came, sum.quiets, sum.fulls, sum.others = sum.ups+w.ups, sum.came+w.came, sum.quiets+w.quiets, sum.fulls+w.fulls, sum.others+w.others
	}
	if sum.ups < 8000 || sum.came < 20000 || sum.quiets < 500 || sum.fulls < 300 || sum.others < 1000 {
		t.Errorf("too little happened: %d ups, %d signals, downs %d by silence, %d by full queues, %d by the other end", sum.ups, sum.came, sum.quiets, sum.fulls, sum.others)
	}
}

// One world for long, so that there is much that is old in flight.
func TestP14_6LongChaos(t *testing.T) {
	k, w := newMaker(5000), newWorld(t, 4)
	for part := range 60 {
		for n := range 500 {
			w.chaos(t, k, moods[part%len(moods)])
			if t.Failed() {
				t.Fatalf("part %d, act %d", part, n)
			}
		}
	}
	w.settles(t)
}

// Half of all is lost, again and again: a link that is heard in each ten ticks
// stays up, and what was sent comes, in order.
func TestP14_6HalfIsLost(t *testing.T) {
	k, w := newMaker(6000), newWorld(t, 3)
	w.settles(t)
	ups := w.ups
	for range 400 {
		for a := 1; a <= 3; a++ {
			b := 1 + a%3
			if w.nodes[a].Queue(b) < 60 {
				w.send(t, a, b, k.body())
			}
		}
		silent := false
		for a := range w.links {
			for b := range w.links[a] {
				silent = silent || w.links[a][b].up && w.links[a][b].quiet > 8
			}
		}
		if !silent {
			w.flight = slices.DeleteFunc(w.flight, func(flying) bool { return k.Intn(2) == 0 })
		}
		w.round(t)
	}
	w.settles(t)
	if w.ups != ups || w.quiets+w.fulls+w.others > 0 || w.came < 400 {
		t.Errorf("P14.6: %d links got up anew, %d signals came", w.ups-ups, w.came)
	}
}

// A node that falls silent is cut by all others at their eleventh tick, and the
// others stay up with each other.
func TestP14_6ANodeFalls(t *testing.T) {
	for n := 2; n <= 6; n++ {
		w := newWorld(t, n)
		w.settles(t)
		for tick := range 11 {
			for a := 1; a < n; a++ {
				w.tick(t, a)
			}
			w.flight = slices.DeleteFunc(w.flight, func(f flying) bool { return f.to == n })
			for len(w.flight) > 0 {
				w.deliver(t, 0)
				w.flight = slices.DeleteFunc(w.flight, func(f flying) bool { return f.to == n })
			}
			for a := 1; a < n; a++ {
				if w.links[a][n].up != (tick < 10) || len(w.nodes[a].Ups()) < n-2 {
					t.Errorf("P14.6: behind tick %d of silence node %d sees %v", tick+1, a, w.nodes[a].Ups())
				}
			}
		}
		w.boot(t, n)
		w.settles(t)
	}
}

// All 64 nodes.
func TestP14_6AllNodes(t *testing.T) {
	w := newWorld(t, 64)
	for range 12 {
		w.round(t)
	}
	for a := 1; a <= 64; a++ {
		if got := len(w.nodes[a].Ups()); got != 63 {
			t.Errorf("P14.6: %d of 63 links of node %d are up", got, a)
		}
	}
	if w.quiets+w.others > 0 {
		t.Error("P14.6: a link went down though nothing was lost")
	}
}
