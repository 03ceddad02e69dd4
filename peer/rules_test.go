package peer_test

import (
	"slices"
	"testing"

	"rookery/api"
	"rookery/peer"
)

// roomy: b anew, with spare room in which something stands.
func roomy(b []byte) []byte {
	room := append(append(make([]byte, 0, len(b)+16), b...), "spare room, 16 b"...)
	return room[:len(b)]
}

// scramble writes into all memory of b, its spare room included.
func scramble(b []byte) {
	room := b[:cap(b)]
	for i := range room {
		room[i] ^= 0x55
	}
}

// scrambleAll writes into all memory of l and of its bodies.
func scrambleAll(l []peer.Out) {
	room := l[:cap(l)]
	for i := range room {
		scramble(room[i].Body)
		room[i] = peer.Out{To: 99, Body: []byte("wrong")}
	}
}

// unchanged: is what was made of b by roomy still that, in its spare room too?
func unchanged(given, b []byte) bool {
	return len(given) == len(b) && slices.Equal(given[:cap(given)], roomy(b)[:cap(given)])
}

// Of several errors the one that is named first.
func TestR1TheFirstError(t *testing.T) {
	long := bytesOf(1001)
	for _, c := range []struct {
		me, nodes int
		boot      uint32
		e         api.Errno
	}{{0, 0, 0, api.ErrPeerNode}, {1, 65, 0, api.ErrPeerNode}, {3, 2, 0, api.ErrPeerNode}, {2, 2, 0, api.ErrArg}} {
		if _, e := peer.New(c.me, c.nodes, c.boot); e != c.e {
			t.Errorf("R1: New(%d, %d, %d): %d", c.me, c.nodes, c.boot, e)
		}
	}
	p := queued(t, 1, 64)
	for _, c := range []struct {
		to int
		b  []byte
		e  api.Errno
	}{{me, long, api.ErrPeerNode}, {0, nil, api.ErrPeerNode}, {2, long, api.ErrPeerDown}, {2, nil, api.ErrPeerDown},
		{1, long, api.ErrLinkLong}, {1, nil, api.ErrLinkLong}, {1, []byte("x"), api.ErrPeerFull}} {
		var none *peer.Peers
		wantErr(t, "R1: Send to nil", none.Send(c.to, c.b), api.ErrNil)
		wantErr(t, "R1: Send", p.Send(c.to, c.b), c.e)
	}
	short, noKind := []byte{1}, []byte{9}
	for _, c := range []struct {
		from int
		boot uint32
		b    []byte
		e    api.Errno
	}{{me, 0, nil, api.ErrPeerNode}, {6, 0, noKind, api.ErrPeerNode}, {0, 1, short, api.ErrPeerNode},
		{1, 0, nil, api.ErrArg}, {2, 0, noKind, api.ErrArg}, {1, 0, laid(t, farOf(1).greeting(0)), api.ErrArg},
		{1, 1, nil, api.ErrPackShort}, {2, most32, noKind, api.ErrPackKind}, {4, 1, short, api.ErrPackShort}} {
		var none *peer.Peers
		wantRefused(t, "R1: Take of nil", none, c.from, c.boot, c.b, api.ErrNil)
		wantRefused(t, "R1: Take", p, c.from, c.boot, c.b, c.e)
	}
}

// refuse does to p all that is refused where it stands (but what cuts a link).
func refuse(t *testing.T, p *peer.Peers) {
	t.Helper()
	for _, n := range noPeers {
		wantErr(t, "P14.4: no peer", p.Send(n, []byte("x")), api.ErrPeerNode)
		wantRefused(t, "P14.3: no peer", p, n, 1, laid(t, farOf(1).greeting(0)), api.ErrPeerNode)
	}
	for _, n := range others {
		f := farOf(n)
		wantRefused(t, "P14.3: boot 0", p, n, 0, laid(t, f.newer().stranger()), api.ErrArg)
		for b, e := range spoilt(t) {
			wantRefused(t, "P14.3: spoilt", p, n, f.boot, []byte(b), e)
		}
		if p.Phase(n) != api.Up {
			wantErr(t, "P14.4: down", p.Send(n, []byte("x")), api.ErrPeerDown)
			continue
		}
		for _, k := range []int{0, 1001} {
			wantErr(t, "P14.4: too short, too long", p.Send(n, bytesOf(k)), api.ErrLinkLong)
		}
	}
}

// What is refused changes nothing that could be told later.
func TestR2NothingChanged(t *testing.T) {
	for name, build := range map[string]func() *peer.Peers{
		"all in Opening": func() *peer.Peers { return made(t, me, nodes, ownBoot) },
		"all Up":         func() *peer.Peers { return up(t, others...) },
		"quiet": func() *peer.Peers {
			p := up(t, 1, 4)
			ticks(t, p, 9)
			wantTake(t, "P14.3: a Beat", p, farOf(1), farOf(1).beat(7, 8, 100), "")
			return p
		},
		"a full queue": func() *peer.Peers { return queued(t, 2, 64) },
		"cut":          func() *peer.Peers { p := up(t, 1, 2); ticks(t, p, 12); return p },
		"shut": func() *peer.Peers {
			p := fresh(t)
			p.Wear(1, most32)
			f := farOf(1)
			f.yours = most32
			rise(t, p, f)
			ticks(t, p, 12)
			return p
		},
	} {
		p := build()
		refuse(t, p)
		wantFate(t, "R2: much was refused: "+name, p, fate(t, build()))
	}
}

// So behind any script.
func TestR2NothingChangedInScripts(t *testing.T) {
	for seed := range int64(60) {
		k := newMaker(seed + 20000)
		m := newModel(me, nodes, ownBoot)
		p := made(t, me, nodes, ownBoot)
		for a := range 60 {
			k.act(t, p, m)
			refuse(t, p)
			wantLike(t, "R2: much was refused", p, m)
			if t.Failed() {
				t.Fatalf("seed %d, act %d", seed, a)
			}
		}
		wantOut(t, "R2: much was refused", p, m.out(t)...)
		wantEvents(t, "R2: much was refused", p, m.fetched()...)
	}
}

func TestR3Lists(t *testing.T) {
	p := up(t, 1)
	for _, b := range [][]byte{nil, {}, roomy(nil)} {
		wantErr(t, "R3: Send of no bytes", p.Send(1, b), api.ErrLinkLong)
		wantErr(t, "R3: Send of no bytes", p.Send(2, b), api.ErrPeerDown)
		wantRefused(t, "R3: Take of no bytes", p, 1, 1, b, api.ErrPackShort)
	}
}

// What Send is handed is neither changed nor kept.
func TestR4Send(t *testing.T) {
	k, f := newMaker(1), farOf(4)
	for range 100 {
		p := up(t, 4)
		b := k.body()
		given := roomy(b)
		wantErr(t, "P14.4: Send", p.Send(4, given), api.OK)
		out := p.Out()
		if !unchanged(given, b) {
			t.Fatal("R4: Send changed what was handed in")
		}
		scramble(given)
		if got := sentAll(t, out); !slices.Equal(got, []sent{f.sends(first, string(b))}) {
			t.Fatalf("R4: what goes out shares memory with what was handed in: %+v", clip(got))
		}
		scrambleAll(out)
		ticks(t, p, 3)
		if got := ofNode(sentAll(t, p.Out()), 4); len(got) != 4 || got[2] != f.sends(first, string(b)) {
			t.Fatalf("R4: what was handed in is kept: %+v", clip(got))
		}
		long := roomy(bytesOf(1001))
		p.Send(4, long)
		p.Send(1, long)
		p.Send(me, long)
		if !unchanged(long, bytesOf(1001)) {
			t.Fatal("R4: what was refused was changed")
		}
	}
}

// What Take is handed is neither changed nor kept, and what it answers is new.
func TestR4Take(t *testing.T) {
	k, f := newMaker(2), farOf(2)
	for range 100 {
		p := up(t, 2)
		body := k.body()
		b := laid(t, f.data(first, string(body)))
		given := roomy(b)
		got, _ := p.Take(2, f.boot, given)
		if !unchanged(given, b) {
			t.Fatal("R4: Take changed what was handed in")
		}
		scramble(given)
		if string(got) != string(body) {
			t.Fatal("R4: what Take answers shares memory with what was handed in")
		}
		b = laid(t, f.data(first+1, string(body)))
		given = roomy(b)
		got, _ = p.Take(2, f.boot, given)
		scramble(got)
		if !unchanged(given, b) {
			t.Fatal("R4: spoiling what Take answers spoils what was handed in")
		}
		for s, e := range spoilt(t) {
			given = roomy([]byte(s))
			wantRefused(t, "P14.3: spoilt", p, 2, f.boot, given, e)
			if !unchanged(given, []byte(s)) {
				t.Fatal("R4: what was refused was changed")
			}
		}
	}
}

// What Out answers shares no memory with what is kept, nor with another answer,
// nor do two bodies of one answer.
func TestR4Out(t *testing.T) {
	f := farOf(1)
	p := queued(t, 1, 3)
	ticks(t, p, 6)
	data := func(l []peer.Out) []sent {
		return slices.DeleteFunc(ofNode(sentAll(t, l), 1), func(s sent) bool { return s.kind != api.PData })
	}
	three := []sent{f.sends(first, signal(0)), f.sends(first+1, signal(1)), f.sends(first+2, signal(2))}
	l := p.Out()
	if got := data(l); !slices.Equal(got, append(slices.Clone(three), three...)) {
		t.Fatalf("P14.2: sent again: %+v", clip(got))
	}
	for i := range l {
		scramble(l[i].Body)
		for j := range l {
			if j != i && l[j].Body[0] > api.PBeat {
				t.Fatal("R4: two bodies of one answer share memory")
			}
		}
		scramble(l[i].Body)
	}
	scrambleAll(l)
	ticks(t, p, 3)
	again := p.Out()
	if got := data(again); !slices.Equal(got, three) {
		t.Errorf("R4: a spoilt answer of Out: %+v", clip(got))
	}
	want := sentAll(t, again)
	_ = append(again[:len(again):cap(again)], peer.Out{To: 99})
	ticks(t, p, 1)
	scrambleAll(p.Out())
	if got := sentAll(t, again); !slices.Equal(got, want) {
		t.Error("R4: an answer of Out changed later")
	}
}

func TestR4Events(t *testing.T) {
	p := fresh(t)
	for _, n := range others[:3] {
		wantTake(t, "P14.3: a Hello", p, farOf(n), farOf(n).greeting(0), "")
	}
	l := p.Events()
	was := slices.Clone(l)
	wantTake(t, "P14.3: a Hello", p, farOf(5), farOf(5).greeting(0), "")
	_ = append(l, api.Event{Node: 99})
	ticks(t, p, 11)
	if !slices.Equal(l, was) {
		t.Error("R4: an answer of Events changed later")
	}
	for i := range l[:cap(l)] {
		l[:cap(l)][i] = api.Event{Node: 99}
	}
	wantEvents(t, "R4: a spoilt answer of Events", p, rose(5), fell(1), fell(2), fell(4), fell(5))
}

func TestR4UpsAndNear(t *testing.T) {
	p := up(t, others...)
	hears(t, p, farOf(4), 1)
	for _, ask := range []func() []int{p.Ups, p.Near} {
		one, two := ask(), ask()
		want := slices.Clone(two)
		for i := range one[:cap(one)] {
			one[:cap(one)][i] = 99
		}
		if !slices.Equal(two, want) {
			t.Error("R4: two answers share memory")
		}
	}
	wantUps(t, "R4: a spoilt answer of Ups", p, others...)
	wantNear(t, "R4: a spoilt answer of Near", p, 4, 1, 2, 5)
}

func TestR5Nil(t *testing.T) {
	var p *peer.Peers
	for range 3 {
		for _, n := range append(slices.Clone(noPeers), others...) {
			for _, b := range [][]byte{nil, {1}, laid(t, farOf(1).greeting(0)), bytesOf(1001)} {
				for _, boot := range []uint32{0, 1, most32} {
					wantRefused(t, "R5: Take", p, n, boot, b, api.ErrNil)
				}
				wantErr(t, "R5: Send", p.Send(n, b), api.ErrNil)
			}
			wantPhase(t, "R5: Phase", p, n, 0)
			wantQueue(t, "R5: Queue", p, n, 0)
		}
		wantOut(t, "R5: Out", p)
		wantEvents(t, "R5: Events", p)
		wantUps(t, "R5: Ups", p)
		wantNear(t, "R5: Near", p)
		wantOwn(t, "R5: Own", p, 0)
		p.Tick()
	}
}

// Two are told the same things, a third one other things in between.
func TestR6NothingElse(t *testing.T) {
	for seed := range int64(40) {
		a, b, c := newMaker(seed+30000), newMaker(seed+30000), newMaker(seed+40000)
		one, m := a.grown(t, 0)
		two, n := b.grown(t, 0)
		third, o := c.grown(t, 0)
		for range 200 {
			a.act(t, one, m)
			c.act(t, third, o)
			b.act(t, two, n)
			wantLike(t, "R6: told the same", one, n)
			wantLike(t, "R6: told the same", two, m)
		}
		if !slices.Equal(sentAll(t, one.Out()), sentAll(t, two.Out())) || !slices.Equal(one.Events(), two.Events()) {
			t.Errorf("R6: two that were told the same tell other things (seed %d)", seed)
		}
	}
}

// Asking changes nothing.
func TestR6Asking(t *testing.T) {
	p := up(t, 1, 4)
	for range 5 {
		p.Ups()
		p.Near()
		p.Own()
		for n := range nodes + 2 {
			p.Queue(n)
			p.Phase(n)
		}
	}
	wantFate(t, "R6: asked", p, fate(t, up(t, 1, 4)))
}

func TestP1Anything(t *testing.T) {
	k := newMaker(9)
	numbers := append(slices.Clone(noPeers), 1, 2, 4, 5)
	for range 100 {
		p, m := k.grown(t, k.Intn(100))
		for range 200 {
			n := numbers[k.Intn(len(numbers))]
			b := make([]byte, []int{0, 1, 2, 13, 14, 17, 21, 22, 41, 1000, 1021, 1022}[k.Intn(12)])
			k.Read(b)
			if len(b) > 0 {
				b[0] %= 6
			}
			if m.isPeer(n) && k.Intn(2) == 0 {
				_, packet := k.packet(m, n)
				b = laid(t, packet)
			}
			if got, e := p.Take(n, k.Uint32()%4, b); e != api.OK && len(got) > 0 {
				t.Errorf("P1: Take answers %q beside %d", got, e)
			}
			p.Send(n, b)
			p.Tick()
			if p.Queue(n) > 64 || p.Phase(n) > 2 || len(p.Near()) != len(p.Ups()) {
				t.Errorf("P1: the queue has %d, the phase is %d", p.Queue(n), p.Phase(n))
			}
			if k.Intn(20) == 0 {
				p.Out()
				p.Events()
			}
		}
	}
}
