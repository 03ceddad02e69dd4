package link_test

import (
	"math"
	"slices"
	"testing"

	"rookery/api"
	"rookery/link"
)

// roomy: b anew, with spare room in which something stands.
func roomy(b []byte) []byte {
	room := append(append(make([]byte, 0, len(b)+16), b...), "spare room, 16 b"...)
	return room[:len(b)]
}

// scramble writes into all memory of b, its spare room included.
func scramble(b []byte) {
	room := b[:cap(b)]
	for i := range room {
		room[i] ^= 0x55
	}
}

// scrambleAll writes into all memory of l and of its bodies.
func scrambleAll(l []api.Packet) {
	room := l[:cap(l)]
	for i := range room {
		scramble(room[i].Body)
		room[i] = api.Packet{Kind: 9, Mine: 99, Seq: 99, Body: []byte("wrong")}
	}
}

// unchanged: is what was made of b by roomy still that, in its spare room too?
func unchanged(given, b []byte) bool {
	return len(given) == len(b) && slices.Equal(given[:cap(given)], roomy(b)[:cap(given)])
}

// What is refused changes nothing that could be told later, wherever an end
// stands.
func TestR2NothingChanged(t *testing.T) {
	for seed := range int64(200) {
		k := newMaker(seed)
		l, m := k.grown(t, 0)
		for range 200 {
			k.act(t, l, m)
			refuse(t, l, m)
			wantLike(t, "R2: much was refused", l, m)
		}
		wantOut(t, "R2: much was refused", l, m.Out()...)
		if t.Failed() {
			t.Fatalf("seed %d", seed)
		}
	}
}

// refuse does to l what is refused where it stands.
func refuse(t *testing.T, l *link.Link, m *model) {
	t.Helper()
	if m.phase != api.Shut {
		wantErr(t, "P11.1: Open", l.Open(), api.ErrLinkPhase)
	}
	if m.phase != api.Up {
		wantErr(t, "P11.2: Send", l.Send([]byte("x")), api.ErrLinkPhase)
		wantErr(t, "P11.4: Beat", l.Beat(1, 2, 3), api.ErrLinkPhase)
	} else {
		wantErr(t, "P11.2: Send", l.Send(nil), api.ErrLinkLong)
		wantErr(t, "P11.4: Beat", l.Beat(1, 2, complex(0, math.NaN())), api.ErrPackForm)
	}
	for _, p := range refused() {
		if got, e := l.Take(max(1, m.newBoot), p); tookOf(got) != (took{}) || e == api.OK {
			t.Errorf("R2: beside %d Take answers %+v", e, got)
		}
	}
	wantRefused(t, "P11.3: boot 0", l, 0, stranger(most32), api.ErrArg)
}

func TestR3Lists(t *testing.T) {
	for _, b := range [][]byte{nil, {}, roomy(nil)} {
		l := up(t)
		wantErr(t, "R3: Send of no bytes", l.Send(b), api.ErrLinkLong)
		p := acked(first)
		p.Body = b
		wantTake(t, "R3: an Ack with no Body", l, p, took{heard: true})
		p = greeting(0)
		p.Body = b
		wantTake(t, "R3: a Hello with no Body", l, p, took{heard: true})
		wantOut(t, "R3: a Hello with no Body", l, sentHello())
		p = data(first, first, "")
		p.Body = b
		wantRefused(t, "R3: a Data with no Body", l, peerBoot, p, api.ErrPackForm)
	}
}

// What Send is handed is neither changed nor kept.
func TestR4Send(t *testing.T) {
	k := newMaker(1)
	for i := range 200 {
		l := up(t)
		b := k.body()
		given := roomy(b)
		must(t, "P11.2: Send", l.Send(given))
		out := l.Out()
		l.Tick()
		l.Tick()
		if !unchanged(given, b) {
			t.Fatalf("R4: Send changed what was handed in (%d)", i)
		}
		scramble(given)
		if len(out) != 1 || string(out[0].Body) != string(b) {
			t.Fatalf("R4: what was emitted shares memory with what was handed in (%d)", i)
		}
		l.Tick()
		wantOut(t, "R4: what was handed in is kept", l, sentData(first, first, string(b)))
		long := roomy(make([]byte, 1001))
		l.Send(long)
		if !unchanged(long, make([]byte, 1001)) {
			t.Fatalf("R4: what was refused was changed (%d)", i)
		}
	}
}

// So with what waits, and is sent later on.
func TestR4Waiting(t *testing.T) {
	l := queued(t, 8)
	given := roomy([]byte("waits"))
	must(t, "P11.2: Send", l.Send(given))
	scramble(given)
	l.Take(peerBoot, acked(first+1))
	wantOut(t, "R4: what waits is kept", l, sentData(first+8, first, "waits"))
}

// What Take is handed is neither changed nor kept, and its Body is new.
func TestR4Take(t *testing.T) {
	k := newMaker(2)
	for i := range 200 {
		l := up(t)
		b := k.body()
		p := data(first, first, "")
		p.Body = roomy(b)
		got, _ := l.Take(peerBoot, p)
		if !unchanged(p.Body, b) {
			t.Fatalf("R4: Take changed what was handed in (%d)", i)
		}
		scramble(p.Body)
		if string(got.Body) != string(b) {
			t.Fatalf("R4: what Take answers shares memory with the packet (%d)", i)
		}
		p.Body = roomy(b)
		p.Seq++
		got, _ = l.Take(peerBoot, p)
		scramble(got.Body)
		if !unchanged(p.Body, b) {
			t.Fatalf("R4: spoiling what Take answers spoils the packet (%d)", i)
		}
	}
}

// What Out answers shares no memory with the end, nor with another answer, nor
// do two packets of one answer.
func TestR4Out(t *testing.T) {
	l := queued(t, 12)
	for range 6 {
		l.Tick()
	}
	twice := l.Out()
	if len(twice) != 16 {
		t.Fatalf("P11.4: %d packets behind six ticks", len(twice))
	}
	scrambleAll(twice[:8:8])
	if got := plainAll(twice[8:]); !slices.Equal(got, sentSignals(0, 8)) {
		t.Errorf("R4: two packets of one answer share memory: %+v", clip(got))
	}
	scrambleAll(twice)
	for range 3 {
		l.Tick()
	}
	again := l.Out()
	if got := plainAll(again); !slices.Equal(got, sentSignals(0, 8)) {
		t.Errorf("R4: what Out answers shares memory with the queue: %+v", clip(got))
	}
	for range 3 {
		l.Tick()
	}
	scrambleAll(again)
	wantOut(t, "R4: two answers of Out share memory", l, sentSignals(0, 8)...)
}

// An answer of Out stays as it is, whatever comes later.
func TestR4OutStays(t *testing.T) {
	for seed := range int64(50) {
		k := newMaker(seed)
		l, m := k.grown(t, 200)
		was, want := l.Out(), m.Out()
		for range 200 {
			k.act(t, l, m)
		}
		l.Shut()
		if !slices.Equal(plainAll(was), want) {
			t.Errorf("R4: an answer of Out changed later (seed %d)", seed)
		}
		scrambleAll(was)
		wantOut(t, "R4: a spoilt answer of Out", l, m.Out()...)
	}
}

func TestR5Nil(t *testing.T) {
	var l *link.Link
	wantErr(t, "R5: Open", l.Open(), api.ErrNil)
	for _, b := range [][]byte{nil, []byte("x"), make([]byte, 1001)} {
		wantErr(t, "R5: Send", l.Send(b), api.ErrNil)
	}
	for _, p := range append(refused(), greeting(0), stranger(1), data(first, first, "x")) {
		wantRefused(t, "R5: Take", l, 0, p, api.ErrNil)
		wantRefused(t, "R5: Take", l, peerBoot, p, api.ErrNil)
	}
	for _, z := range []complex128{0, complex(math.NaN(), 1)} {
		wantErr(t, "R5: Beat", l.Beat(1, 2, z), api.ErrNil)
	}
	l.Tick()
	if l.Shut() {
		t.Error("R5: Shut")
	}
	wantOut(t, "R5: Out", l)
	wantPhase(t, "R5: Phase, Token", l, api.Shut, 0)
	wantPeer(t, "R5: Peer", l, 0, 0)
	wantQueue(t, "R5: Queue", l, 0)
}

// Two ends are told the same things, a third one other things in between.
func TestR6NothingElse(t *testing.T) {
	for seed := range int64(50) {
		a, b, c := newMaker(seed), newMaker(seed), newMaker(seed+500)
		one, m := a.grown(t, 0)
		two, n := b.grown(t, 0)
		third, o := c.grown(t, 0)
		for range 300 {
			a.act(t, one, m)
			c.act(t, third, o)
			b.act(t, two, n)
			wantLike(t, "R6: told the same", one, n)
			wantLike(t, "R6: told the same", two, m)
		}
		if !slices.Equal(plainAll(one.Out()), plainAll(two.Out())) {
			t.Errorf("R6: two ends that were told the same emit other things (seed %d)", seed)
		}
	}
}

// Asking changes nothing.
func TestR6Asking(t *testing.T) {
	l := queued(t, 9)
	for range 5 {
		wantUp(t, "R6: asked again", l, 9)
	}
}

// anything: a packet with any numbers in any fields.
func (k maker) anything() api.Packet {
	n := func() uint32 {
		return []uint32{0, 1, 2, 5, 7, first, first + 1, most32, k.Uint32()}[k.Intn(9)]
	}
	parts := []float64{0, 1, math.Copysign(0, -1), math.Inf(1), math.NaN()}
	return api.Packet{Kind: k.Intn(7) - 1, Mine: n(), Boot: n(), Yours: n(), Seq: n(), Ack: n(), Stamp: n(), Echo: n(),
		Z: complex(parts[k.Intn(5)], parts[k.Intn(5)]), Body: make([]byte, []int{0, 1, 1000, 1001}[k.Intn(4)])}
}

func TestP1Anything(t *testing.T) {
	k := newMaker(9)
	for range 300 {
		l, _ := k.grown(t, k.Intn(60))
		for range 100 {
			p := k.anything()
			got, e := l.Take(k.Uint32()%3, p)
			if e != api.OK && tookOf(got) != (took{}) {
				t.Errorf("P1: Take(%+v): %+v, %d", p.Kind, got, e)
			}
			l.Beat(p.Stamp, p.Echo, p.Z)
			l.Send(p.Body)
			l.Tick()
		}
		if n := len(l.Out()); n > 1024 || l.Queue() > 64 {
			t.Errorf("P1: %d emitted, %d in the queue", n, l.Queue())
		}
	}
}
