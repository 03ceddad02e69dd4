package link_test

import (
	"math/rand"
	"slices"
	"strconv"
	"testing"

	"rookery/api"
	"rookery/link"
)

const most32 = 1<<32 - 1

// first: the number of an attempt's first signal. (No constant: it goes round.)
var first = uint32(4294967293)

// plain: a packet that can be compared; an empty Body is a nil one (R3).
type plain struct {
	kind                                     int
	mine, boot, yours, seq, ack, stamp, echo uint32
	z                                        complex128
	body                                     string
}

func plainOf(p api.Packet) plain {
	return plain{p.Kind, p.Mine, p.Boot, p.Yours, p.Seq, p.Ack, p.Stamp, p.Echo, p.Z, string(p.Body)}
}

func plainAll(l []api.Packet) []plain {
	var out []plain
	for _, p := range l {
		out = append(out, plainOf(p))
	}
	return out
}

// took: what came of a packet, so that it can be compared.
type took struct {
	heard, up, down bool
	body            string
}

func tookOf(t link.Taken) took { return took{t.Heard, t.Up, t.Down, string(t.Body)} }

// The tests' own end has boot 7; the other one has boot 4 and token 5, where
// nothing else is said.
const (
	ownBoot  = 7
	peerBoot = 4
	peerMine = 5
)

func made(t *testing.T, boot uint32) *link.Link {
	t.Helper()
	l, e := link.New(boot)
	if l == nil || e != api.OK {
		t.Fatalf("P11.1: New(%d): %v, %d", boot, l, e)
	}
	return l
}

// opening: an end in its first attempt, whose Hello was fetched.
func opening(t *testing.T) *link.Link {
	t.Helper()
	l := made(t, ownBoot)
	must(t, "P11.1: Open", l.Open())
	l.Out()
	return l
}

// up: an end that is Up with the other one, all it emitted being fetched.
func up(t *testing.T) *link.Link {
	t.Helper()
	l := opening(t)
	wantTake(t, "P11.3: a Hello that is meant for this attempt", l, greeting(0), took{heard: true, up: true})
	l.Out()
	return l
}

// queued: an end that is Up, so many signals being in its queue, all it
// emitted being fetched.
func queued(t *testing.T, n int) *link.Link {
	t.Helper()
	l := up(t)
	for i := range n {
		must(t, "P11.2: Send", l.Send(signal(i)))
	}
	l.Out()
	return l
}

func signal(i int) []byte { return []byte{'s', byte(i)} }

// last: an end with the last token, in a phase, all it emitted being fetched.
func last(t *testing.T, phase int) *link.Link {
	t.Helper()
	l := made(t, ownBoot)
	l.SkipTo(most32 - 1)
	must(t, "P11.1: Open of the last but one token", l.Open())
	switch phase {
	case api.Shut:
		l.Shut()
	case api.Up:
		l.Take(peerBoot, api.Packet{Kind: api.PHello, Mine: peerMine, Boot: ownBoot, Yours: most32})
	}
	l.Out()
	wantPhase(t, "an end with the last token", l, phase, most32)
	return l
}

// Packets of the other end: first such as are meant for no attempt, then such
// as are meant for the first one of the tests' own end.

func stranger(mine uint32) api.Packet { return api.Packet{Kind: api.PHello, Mine: mine} }

func greeting(seq uint32) api.Packet {
	return api.Packet{Kind: api.PHello, Mine: peerMine, Boot: ownBoot, Yours: 1, Seq: seq}
}

func data(seq, ack uint32, body string) api.Packet {
	return api.Packet{Kind: api.PData, Mine: peerMine, Boot: ownBoot, Yours: 1, Seq: seq, Ack: ack, Body: []byte(body)}
}

func acked(ack uint32) api.Packet {
	return api.Packet{Kind: api.PAck, Mine: peerMine, Boot: ownBoot, Yours: 1, Ack: ack}
}

func beat(ack uint32) api.Packet {
	return api.Packet{Kind: api.PBeat, Mine: peerMine, Boot: ownBoot, Yours: 1, Ack: ack, Stamp: 8, Echo: 9, Z: complex(1, -2)}
}

// words: one packet of each kind but Hello.
func words(ack uint32) []api.Packet {
	return []api.Packet{data(first, ack, "d"), acked(ack), beat(ack)}
}

// What the tests' own end emits in its first attempt, when it is Up.

func sentHello() plain {
	return plain{kind: api.PHello, mine: 1, boot: peerBoot, yours: peerMine, seq: 1}
}

func sentData(seq, ack uint32, body string) plain {
	return plain{kind: api.PData, mine: 1, boot: peerBoot, yours: peerMine, seq: seq, ack: ack, body: body}
}

func sentAck(ack uint32) plain {
	return plain{kind: api.PAck, mine: 1, boot: peerBoot, yours: peerMine, ack: ack}
}

func sentBeat(ack, stamp, echo uint32, z complex128) plain {
	return plain{kind: api.PBeat, mine: 1, boot: peerBoot, yours: peerMine, ack: ack, stamp: stamp, echo: echo, z: z}
}

// sentSignals: the Data of the signals from the i-th to ahead of the n-th, of
// an end that has had nothing.
func sentSignals(i, n int) []plain {
	var out []plain
	for ; i < n; i++ {
		out = append(out, sentData(first+uint32(i), first, string(signal(i))))
	}
	return out
}

func wantErr(t *testing.T, what string, got, want api.Errno) {
	t.Helper()
	if got != want {
		t.Errorf("%s: %d, not %d", what, got, want)
	}
}

func must(t *testing.T, what string, got api.Errno) {
	t.Helper()
	wantErr(t, what, got, api.OK)
}

// wantTake: p comes from the other end's boot.
func wantTake(t *testing.T, what string, l *link.Link, p api.Packet, want took) {
	t.Helper()
	wantTakeOf(t, what, l, peerBoot, p, want)
}

func wantTakeOf(t *testing.T, what string, l *link.Link, boot uint32, p api.Packet, want took) {
	t.Helper()
	if got, e := l.Take(boot, p); tookOf(got) != want || e != api.OK {
		t.Errorf("%s: Take(%d, %+v): %+v, %d, not %#v", what, boot, p, got, e, want)
	}
}

// wantRefused: nothing is answered beside the error.
func wantRefused(t *testing.T, what string, l *link.Link, boot uint32, p api.Packet, want api.Errno) {
	t.Helper()
	if got, e := l.Take(boot, p); tookOf(got) != (took{}) || e != want {
		t.Errorf("%s: Take(%d, kind %d): %+v, %d, not %d", what, boot, p.Kind, got, e, want)
	}
}

// clip: as many packets as a message needs, with bodies that can be read.
func clip(l []plain) []plain {
	out := slices.Clone(l[:min(len(l), 10)])
	for i := range out {
		out[i].body = strconv.Quote(out[i].body[:min(len(out[i].body), 12)])
	}
	return out
}

func wantOut(t *testing.T, what string, l *link.Link, want ...plain) {
	t.Helper()
	if got := plainAll(l.Out()); !slices.Equal(got, want) {
		t.Errorf("%s: emitted %d %+v, not %d %+v", what, len(got), clip(got), len(want), clip(want))
	}
}

func wantPhase(t *testing.T, what string, l *link.Link, phase int, token uint32) {
	t.Helper()
	if l.Phase() != phase || l.Token() != token {
		t.Errorf("%s: phase %d, token %d, not %d, %d", what, l.Phase(), l.Token(), phase, token)
	}
}

func wantPeer(t *testing.T, what string, l *link.Link, boot, token uint32) {
	t.Helper()
	if b, k := l.Peer(); b != boot || k != token {
		t.Errorf("%s: Peer: %d, %d, not %d, %d", what, b, k, boot, token)
	}
}

func wantQueue(t *testing.T, what string, l *link.Link, want int) {
	t.Helper()
	if got := l.Queue(); got != want {
		t.Errorf("%s: Queue: %d, not %d", what, got, want)
	}
}

// wantUp: it is Up with the other end in the first attempt, so many signals
// being in the queue, and nothing emitted.
func wantUp(t *testing.T, what string, l *link.Link, queue int) {
	t.Helper()
	wantPhase(t, what, l, api.Up, 1)
	wantPeer(t, what, l, peerBoot, peerMine)
	wantQueue(t, what, l, queue)
	wantOut(t, what, l)
}

// ticks: so many, of which none emits anything.
func ticks(t *testing.T, what string, l *link.Link, n int) {
	t.Helper()
	for range n {
		l.Tick()
		wantOut(t, what+", ahead of the third tick", l)
	}
}

// maker makes acts, the same ones for the same seed.
type maker struct{ *rand.Rand }

func newMaker(seed int64) maker { return maker{rand.New(rand.NewSource(seed))} }

// body: of a length that a signal may have, mostly a short one.
func (m maker) body() []byte {
	n := 1 + m.Intn(6)
	if m.Intn(20) == 0 {
		n = 990 + m.Intn(11)
	}
	b := make([]byte, n)
	m.Read(b)
	return b
}

// near: x, or a number close by.
func (m maker) near(x uint32) uint32 {
	if m.Intn(4) > 0 {
		return x
	}
	return x + uint32(m.Intn(5)) - 2
}
