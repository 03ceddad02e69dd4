package pair_test

import (
	"slices"
	"testing"

	"rookery/api"
	"rookery/pair"
)

// told: what a side's log tells of its links, the bodies in order.
type told struct {
	links     []bond
	sent, got map[bond][]string
}

// read goes through a side's log, and holds it to what an end may see: Up, then
// Sent and Got of that link alone, then Down or Boot.
func read(t *testing.T, p *pair.Pair, side int) told {
	t.Helper()
	out := told{sent: map[bond][]string{}, got: map[bond][]string{}}
	up, boot := bond{}, uint32(1)
	for _, e := range p.Log(side) {
		b := bond{e.Boot, e.Mine, e.Peer, e.Yours}
		switch {
		case e.Kind == pair.EntBoot:
			if b != (bond{boot: boot + 1}) || len(e.Body) > 0 {
				t.Errorf("P12.2: behind the boot %d EntBoot has %v", boot, b)
			}
			up, boot = bond{}, b.boot
		case e.Kind == pair.EntUp:
			if up != (bond{}) || b.boot != boot || min(b.mine, b.peer, b.yours) < 1 {
				t.Errorf("P12.2: up with %v while it is up with %v", b, up)
			}
			up = b
			out.links = append(out.links, b)
		case b != up || up == (bond{}):
			t.Errorf("P12.2: an entry %d of %v while it is up with %v", e.Kind, b, up)
		case e.Kind == pair.EntDown:
			up = bond{}
		case e.Kind == pair.EntSent:
			out.sent[b] = append(out.sent[b], string(e.Body))
		case e.Kind == pair.EntGot:
			out.got[b] = append(out.got[b], string(e.Body))
		default:
			t.Errorf("P12.2: an entry of kind %d", e.Kind)
		}
	}
	return out
}

// wantOrder holds both logs to P12.4, and tells how much they tell.
func wantOrder(t *testing.T, p *pair.Pair) (links, bodies int) {
	t.Helper()
	sides := [2]told{read(t, p, 0), read(t, p, 1)}
	for s, x := range sides {
		for i := 1; i < len(x.links); i++ {
			a, b := x.links[i-1], x.links[i]
			if b.boot < a.boot || b.boot == a.boot && b.mine <= a.mine {
				t.Errorf("P12.4: behind the link %v side %d has %v", a, s, b)
			}
		}
		for b, got := range x.got {
			sent := sides[1-s].sent[b.turned()]
			if len(got) > len(sent) || !slices.Equal(got, sent[:len(got)]) {
				t.Errorf("P12.4: of %v side %d got %d bodies which are no beginning of the %d sent", b, s, len(got), len(sent))
			}
			bodies += len(got)
		}
		links += len(x.links)
	}
	return links, bodies
}

func bothUp(p *pair.Pair) bool { return p.Phase(0) == api.Up && p.Phase(1) == api.Up }

// round: both tick, and what is in flight at the round's beginning comes, in
// order. The beginning is ahead of the ticks, or behind them.
func round(t *testing.T, p *pair.Pair, ahead bool) {
	t.Helper()
	n := p.Flight()
	must(t, "P12.5: Tick", p, at(pair.Tick, 0), at(pair.Tick, 1))
	if !ahead {
		n = p.Flight()
	}
	must(t, "P12.5: Deliver", p, times(n, of(pair.Deliver, 0))...)
}

// wantSettled holds a pair to P12.5, whatever went ahead, and tells behind how
// many rounds both were Up for good, and the queues empty.
func wantSettled(t *testing.T, p *pair.Pair, ahead bool) (rounds, empty int) {
	t.Helper()
	for s := range 2 {
		if p.Phase(s) == api.Shut {
			must(t, "P12.5: Open", p, at(pair.Open, s))
		}
	}
	var marks [2]int
	for n := range 64 {
		if n == 16 {
			marks = [2]int{len(read(t, p, 0).links), len(read(t, p, 1).links)}
		}
		round(t, p, ahead)
		if !bothUp(p) {
			rounds = n + 2
		}
		if p.Queue(0)+p.Queue(1) > 0 {
			empty = n + 2
		}
	}
	if rounds > 16 || empty > 64 {
		t.Errorf("P12.5: up behind %d rounds, empty behind %d", rounds, empty)
		return rounds, empty
	}
	sides := [2]told{read(t, p, 0), read(t, p, 1)}
	for s, x := range sides {
		if len(x.links) != marks[s] {
			t.Errorf("P12.5: a link of side %d got up behind 16 rounds", s)
		}
		b := x.links[len(x.links)-1]
		if o := sides[1-s]; o.links[len(o.links)-1] != b.turned() || !slices.Equal(o.got[b.turned()], x.sent[b]) {
			t.Errorf("P12.4: side %d sent %d of %v, and %d came", s, len(x.sent[b]), b, len(o.got[b.turned()]))
		}
	}
	return rounds, empty
}

// chaos: so many acts of a mood.
func (k maker) chaos(t *testing.T, p *pair.Pair, m mood, acts int) {
	t.Helper()
	m.wrong = 0
	for range acts {
		for _, a := range k.acts(m, p.Flight()) {
			p.Do(a)
		}
	}
}

func TestP12_4And5Chaos(t *testing.T) {
	links, bodies := 0, 0
	for seed := range int64(400) {
		k, p := newMaker(seed+10000), pair.New()
		for range 4 {
			k.chaos(t, p, moods[k.Intn(len(moods))], k.Intn(400))
			wantSettled(t, p, seed%2 == 0)
		}
		l, b := wantOrder(t, p)
		links, bodies = links+l, bodies+b
		if t.Failed() {
			t.Fatalf("seed %d", seed)
		}
	}
	if links < 4000 || bodies < 10000 {
		t.Errorf("too little happened: %d links, %d bodies", links, bodies)
	}
}

// One pair for long, so that much that is old is in flight; what a script's
// part has left is settled at its end.
func TestP12_4And5LongChaos(t *testing.T) {
	for seed := range int64(5) {
		k, p := newMaker(seed+20000), pair.New()
		m := moods[int(seed)]
		for range 6 {
			k.chaos(t, p, m, 5000)
		}
		wantOrder(t, p)
		wantSettled(t, p, seed%2 == 0)
		wantOrder(t, p)
		if t.Failed() {
			t.Fatalf("seed %d", seed)
		}
	}
}

// Half of all packets are lost, and some come twice, again and again; in the
// end all came that Send took, in order, and no link went down.
func TestP12_4HalfIsLost(t *testing.T) {
	k, p := newMaker(30000), up(t)
	var want [2][]string
	for range 2000 {
		for s := range 2 {
			b := string(k.body())
			if p.Do(send(s, b)) == api.OK {
				want[s] = append(want[s], b)
			}
		}
		for n := p.Flight(); n > 0; n-- {
			kind := []int{pair.Drop, pair.Drop, pair.Deliver, pair.Deliver, pair.Twin}[k.Intn(5)]
			must(t, "P12.1: a packet", p, of(kind, k.Intn(p.Flight())))
		}
		must(t, "P12.1: Tick", p, at(pair.Tick, 0), at(pair.Tick, 1))
	}
	wantSettled(t, p, false)
	wantOrder(t, p)
	for s := range 2 {
		x := read(t, p, s)
		if got := x.got[nearOf(s)]; len(x.links) != 1 || len(got) < 300 || !slices.Equal(got, want[1-s]) {
			t.Errorf("P12.4: side %d got %d of %d, of %d links", s, len(got), len(want[1-s]), len(x.links))
		}
	}
}

// floods: pairs whose flight is full of one thing, so that what the ends emit
// is lost.
func floods(t *testing.T, s int) []*pair.Pair {
	t.Helper()
	var out []*pair.Pair
	add := func(p *pair.Pair) {
		fill(t, p, 1024)
		out = append(out, p)
	}
	p := pair.New()
	must(t, "P12.1: Open", p, at(pair.Open, s))
	add(p)
	p = pair.New()
	must(t, "P12.1: Open", p, at(pair.Open, s), at(pair.Open, 1-s), of(pair.Deliver, 0), of(pair.Drop, 0))
	add(p)
	// Both queues are full; then a link that was, and one that is meant for a
	// life that is over.
	for _, kind := range []int{0, pair.Shut, pair.Boot} {
		for side := range 2 {
			p = queued(t, s, 64)
			for i := range 64 {
				must(t, "P12.1: Send", p, send(1-s, signal(i)))
			}
			if kind != 0 {
				must(t, "P12.1: Shut, Boot", p, at(kind, side))
			}
			add(p)
		}
	}
	// Acks alone; and all lost that was sent.
	p = queued(t, s, 64)
	must(t, "P12.1: Deliver", p, times(8, of(pair.Deliver, 0))...)
	add(p)
	p = queued(t, s, 64)
	must(t, "P12.1: Drop", p, times(8, of(pair.Drop, 0))...)
	return append(out, p)
}

func TestP12_5Floods(t *testing.T) {
	for s := range 2 {
		for _, ahead := range []bool{true, false} {
			for i, p := range floods(t, s) {
				wantSettled(t, p, ahead)
				wantOrder(t, p)
				if t.Failed() {
					t.Fatalf("flood %d", i)
				}
			}
		}
	}
}

// Many attempts and lives of both, the packets of all of them in flight, in
// either order.
func TestP12_5ManyLives(t *testing.T) {
	for n := range 40 {
		p := pair.New()
		for i := range 6 * n {
			must(t, "P12.1: Open", p, at(pair.Open, i%2))
			must(t, "P12.1: Shut, Boot", p, at([]int{pair.Shut, pair.Boot}[i/2*n%3%2], i%2))
			if n%2 == 0 && i%3 == 0 {
				must(t, "P12.1: Deliver", p, of(pair.Deliver, p.Flight()-1))
			}
		}
		wantSettled(t, p, n%4 < 2)
		wantOrder(t, p)
		if t.Failed() {
			t.Fatalf("%d attempts", 6*n)
		}
	}
}
