package pair_test

import (
	"slices"
	"testing"

	"rookery/api"
	"rookery/pair"
)

// roomy: b anew, with spare room in which something stands.
func roomy(b string) []byte {
	room := append(append(make([]byte, 0, len(b)+16), b...), "spare room, 16 b"...)
	return room[:len(b)]
}

// scramble writes into all memory of b, its spare room included.
func scramble(b []byte) {
	room := b[:cap(b)]
	for i := range room {
		room[i] ^= 0x55
	}
}

// scrambleAll writes into all memory of l and of its bodies.
func scrambleAll(l []pair.Entry) {
	room := l[:cap(l)]
	for i := range room {
		scramble(room[i].Body)
		room[i] = pair.Entry{Kind: 9, Boot: 99, Mine: 99, Peer: 99, Yours: 99, Body: []byte("wrong")}
	}
}

// Of several errors the one that is named first.
func TestR1TheFirstError(t *testing.T) {
	for _, c := range []struct {
		a pair.Act
		e api.Errno
	}{
		{pair.Act{Kind: 0, Side: 2, I: -1}, api.ErrPairAct},
		{pair.Act{Kind: 9, Side: -1, I: 5000}, api.ErrPairAct},
		{pair.Act{Kind: pair.Open, Side: 2, I: -1}, api.ErrPairSide},
		{pair.Act{Kind: pair.Send, Side: -1, I: -1}, api.ErrPairSide},
		{pair.Act{Kind: pair.Send, Side: 2, Body: make([]byte, 1001)}, api.ErrPairSide},
		{pair.Act{Kind: pair.Send, Side: 0, I: -1, Body: make([]byte, 1001)}, api.ErrLinkPhase},
		{pair.Act{Kind: pair.Send, Side: 1, I: -1}, api.ErrLinkLong},
		{pair.Act{Kind: pair.Send, Side: 1, Body: make([]byte, 1001)}, api.ErrLinkLong},
		{pair.Act{Kind: pair.Send, Side: 1, Body: make([]byte, 1000)}, api.ErrLinkFull},
		{pair.Act{Kind: pair.Deliver, Side: 2, I: 8}, api.ErrPairNone},
		{pair.Act{Kind: pair.Drop, Side: -1, I: -1}, api.ErrPairNone},
		{pair.Act{Kind: pair.Twin, Side: 7, I: 8}, api.ErrPairNone},
		{pair.Act{Kind: pair.Open, Side: 1}, api.ErrLinkPhase},
	} {
		p := queued(t, 1, 64)
		must(t, "P12.1: Shut", p, at(pair.Shut, 0))
		wantRefused(t, "R1", p, c.a, c.e)
		var none *pair.Pair
		wantErr(t, "R1: a nil one", none, c.a, api.ErrNil)
	}
}

// What is refused changes nothing that could be told later, wherever a pair
// stands.
func TestR2NothingChanged(t *testing.T) {
	for seed := range int64(100) {
		k, p, m := newMaker(seed+40000), pair.New(), newModel()
		kind := moods[int(seed)%len(moods)]
		kind.flood, kind.wrong = 0, 0
		for n := range 200 {
			a := k.pick(kind, len(m.flight))
			wantErr(t, "P12.1: a script", p, a, m.do(a))
			for range 5 {
				a, e := k.refusedBy(m)
				wantErr(t, "R2: refused", p, a, e)
			}
			wantState(t, "R2: much was refused", p, m.state())
			if t.Failed() {
				t.Fatalf("seed %d, act %d", seed, n)
			}
		}
		wantWhole(t, "R2: much was refused", p, whole{m.state(), m.logs})
	}
}

// refusedBy: an act that is refused where m stands, and its error.
func (k maker) refusedBy(m *model) (pair.Act, api.Errno) {
	s := k.Intn(2)
	switch k.Intn(5) {
	case 0:
		return pair.Act{Kind: 9 * k.Intn(2), Side: s}, api.ErrPairAct
	case 1:
		return pair.Act{Kind: endActs[k.Intn(5)], Side: 3*s - 1, Body: []byte("x")}, api.ErrPairSide
	case 2:
		return pair.Act{Kind: flightActs[k.Intn(3)], I: s*(len(m.flight)+1) - 1}, api.ErrPairNone
	case 3:
		if m.ends[s].Phase() != api.Shut {
			return at(pair.Open, s), api.ErrLinkPhase
		}
		return send(s, "x"), api.ErrLinkPhase
	}
	if m.ends[s].Phase() == api.Up {
		return send(s, ""), api.ErrLinkLong
	}
	return send(s, "x"), api.ErrLinkPhase
}

func TestR3Lists(t *testing.T) {
	for _, b := range [][]byte{nil, {}, roomy("")} {
		for s := range 2 {
			p := up(t)
			wantRefused(t, "R3: Send of no bytes", p, pair.Act{Kind: pair.Send, Side: s, Body: b}, api.ErrLinkLong)
			must(t, "R3: Shut", p, pair.Act{Kind: pair.Shut, Side: s, Body: b})
			must(t, "R3: Open", p, pair.Act{Kind: pair.Open, Side: s, Body: b})
			wantFlight(t, "R3: Open", p, 1)
		}
	}
}

// What is handed in is neither changed nor kept: not in the log, the queue, or
// a packet in flight.
func TestR4Send(t *testing.T) {
	k := newMaker(50000)
	for n := range 100 {
		s := n % 2
		p := up(t)
		had := [2][]seen{seenAll(p.Log(0)), seenAll(p.Log(1))}
		b := string(k.body())
		given := roomy(b)
		must(t, "P12.1: Send", p, pair.Act{Kind: pair.Send, Side: s, Body: given})
		must(t, "P12.1: Twin, Tick", p, of(pair.Twin, 0), at(pair.Tick, s))
		if !slices.Equal(given[:cap(given)], roomy(b)[:cap(given)]) {
			t.Fatalf("R4: what was handed in was changed (%d)", n)
		}
		scramble(given)
		wantMore(t, "R4: the log keeps what was handed in", p, s, had[s], nearOf(s).saw(pair.EntSent, b))
		if n%4 < 2 {
			loseAll(t, p)
			must(t, "P12.1: Tick", p, at(pair.Tick, s), at(pair.Tick, s))
		}
		drain(t, p)
		wantMore(t, "R4: a packet keeps what was handed in", p, 1-s, had[1-s], nearOf(1-s).saw(pair.EntGot, b))
		long := roomy(string(make([]byte, 1001)))
		wantErr(t, "P12.1: Send", p, pair.Act{Kind: pair.Send, Side: s, Body: long}, api.ErrLinkLong)
		wantErr(t, "P12.1: no act", p, pair.Act{Kind: 9, Side: s, Body: long}, api.ErrPairAct)
		must(t, "P12.1: Boot", p, pair.Act{Kind: pair.Boot, Side: s, Body: long})
		if !slices.Equal(long[:cap(long)], roomy(string(make([]byte, 1001)))[:cap(long)]) {
			t.Fatalf("R4: what plays no part was changed (%d)", n)
		}
	}
}

// What Log answers shares no memory with the pair, nor with another answer.
func TestR4Log(t *testing.T) {
	for s := range 2 {
		p := queued(t, s, 5)
		must(t, "P12.1: Twin, Deliver", p, of(pair.Twin, 0), of(pair.Twin, 1), of(pair.Deliver, 0), of(pair.Deliver, 0))
		want := wholeOf(p)
		first := [2][]pair.Entry{p.Log(0), p.Log(1)}
		second := [2][]pair.Entry{p.Log(0), p.Log(1)}
		for i := range 2 {
			scrambleAll(first[i])
			if !slices.Equal(seenAll(second[i]), want.logs[i]) {
				t.Error("R4: two answers of Log share memory")
			}
		}
		wantWhole(t, "R4: a spoilt answer of Log", p, want)
		for i := range 2 {
			scrambleAll(second[i])
		}
		loseAll(t, p)
		must(t, "P12.1: Tick", p, times(3, at(pair.Tick, s))...)
		drain(t, p)
		wantGot(t, "R4: a spoilt answer of Log", p, 1-s, signal(0), signal(1), signal(2), signal(3), signal(4))
	}
}

// What one entry holds is not another one's, of one log or of the other.
func TestR4Entries(t *testing.T) {
	p := queued(t, 0, 2)
	drain(t, p)
	all := append(p.Log(0), p.Log(1)...)
	want := seenAll(all)
	for i := range all {
		scramble(all[i].Body)
		for j := range all {
			if j != i && seenAll(all)[j] != want[j] {
				t.Errorf("R4: the entries %d and %d share memory", i, j)
			}
		}
		scramble(all[i].Body)
	}
}

// An answer of Log stays as it is, whatever comes later, and even if room is
// left behind it.
func TestR4LogStays(t *testing.T) {
	for seed := range int64(60) {
		k, p := newMaker(seed+60000), pair.New()
		k.chaos(t, p, moods[0], 300)
		was, want := [2][]pair.Entry{p.Log(0), p.Log(1)}, wholeOf(p)
		k.chaos(t, p, moods[0], 300)
		for s := range 2 {
			if !slices.Equal(seenAll(was[s]), want.logs[s]) {
				t.Errorf("R4: an answer of Log changed later (seed %d)", seed)
			}
		}
		now := wholeOf(p)
		for s := range 2 {
			_ = append(was[s], pair.Entry{Kind: 9})
		}
		wantWhole(t, "R4: something put behind an answer of Log", p, now)
	}
}

func TestR5Nil(t *testing.T) {
	var p *pair.Pair
	for kind := -1; kind <= 9; kind++ {
		for side := -1; side <= 2; side++ {
			for i := -1; i <= 1; i++ {
				wantErr(t, "R5: Do", p, pair.Act{Kind: kind, Side: side, I: i, Body: []byte("x")}, api.ErrNil)
				wantErr(t, "R5: Do", p, pair.Act{Kind: kind, Side: side, I: i}, api.ErrNil)
			}
		}
	}
	for side := -1; side <= 2; side++ {
		if l := p.Log(side); len(l) != 0 || p.Phase(side) != 0 || p.Queue(side) != 0 {
			t.Errorf("R5: Log, Phase, Queue of %d: %d entries, %d, %d", side, len(l), p.Phase(side), p.Queue(side))
		}
	}
	wantFlight(t, "R5: Flight", p, 0)
}

// Two pairs are told the same things, a third one other things in between.
func TestR6NothingElse(t *testing.T) {
	for seed := range int64(60) {
		a, b, c := newMaker(seed+70000), newMaker(seed+70000), newMaker(seed+80000)
		one, two, third := pair.New(), pair.New(), pair.New()
		m := moods[int(seed)%len(moods)]
		for range 10 {
			a.chaos(t, one, m, 30)
			c.chaos(t, third, m, 30)
			b.chaos(t, two, m, 30)
			wantWhole(t, "R6: told the same", two, wholeOf(one))
		}
	}
}

// Asking changes nothing.
func TestR6Asking(t *testing.T) {
	p := queued(t, 0, 9)
	want := wholeOf(p)
	for range 5 {
		for side := -1; side <= 2; side++ {
			p.Log(side)
			p.Phase(side)
			p.Queue(side)
		}
		wantWhole(t, "R6: asked again", p, want)
	}
}

func TestP1Anything(t *testing.T) {
	k := newMaker(90000)
	pick := func() int {
		return append(numbers, 0, 1, 2, 3, 8, 1023)[k.Intn(len(numbers)+6)]
	}
	for range 100 {
		p := pair.New()
		k.chaos(t, p, moods[k.Intn(len(moods))], k.Intn(200))
		for range 300 {
			a := pair.Act{Kind: k.Intn(11) - 1, Side: pick(), I: pick(), Body: make([]byte, []int{0, 1, 1000, 1001}[k.Intn(4)])}
			p.Do(a)
			p.Log(pick())
			if n := p.Flight(); n < 0 || n > 1024 || p.Phase(pick()) > 2 || p.Queue(pick()) > 64 {
				t.Errorf("P1: %d in flight", n)
			}
		}
		wantOrder(t, p)
	}
}
