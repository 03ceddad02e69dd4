package peer_test

import (
	"math"
	"math/rand"
	"slices"
	"strconv"
	"testing"

	"rookery/api"
	"rookery/pack"
	"rookery/peer"
)

const (
	most32   = 1<<32 - 1
	mostInt  = 1<<63 - 1
	leastInt = -1 << 63
)

// first: the number of a link's first signal. (No constant: it goes round.)
var first = uint32(4294967293)

// The tests' own node, where nothing else is said.
const (
	me      = 3
	nodes   = 5
	ownBoot = 7
	ownZ    = complex(3, 9)
)

// others: its peers.
var others = []int{1, 2, 4, 5}

// noPeers: numbers that are none of its peers.
var noPeers = []int{leastInt, leastInt + 1, -1 << 32, 1 - 1<<32, -64, -3, -2, -1, 0, me, nodes + 1, nodes + 2, 64, 65,
	1<<32 - 1, 1 << 32, 1<<32 + 1, 1<<32 + 2, mostInt}

// far: the end of a link at another node, as the tests play it; yours: which
// attempt of the own node it means.
type far struct {
	node              int
	boot, mine, yours uint32
}

func farOf(node int) far { return far{node, uint32(10 + node), uint32(20 + node), 1} }

// again: the same end, when the own node has begun its next attempt.
func (f far) again() far {
	f.yours++
	return f
}

// newer: another attempt of that end.
func (f far) newer() far {
	f.mine++
	return f
}

// What such an end says.

func (f far) word(kind int) api.Packet {
	return api.Packet{Kind: kind, Mine: f.mine, Boot: ownBoot, Yours: f.yours}
}

func (f far) stranger() api.Packet { return api.Packet{Kind: api.PHello, Mine: f.mine} }

func (f far) greeting(seq uint32) api.Packet {
	p := f.word(api.PHello)
	p.Seq = seq
	return p
}

func (f far) data(seq uint32, body string) api.Packet {
	p := f.word(api.PData)
	p.Seq, p.Ack, p.Body = seq, first, []byte(body)
	return p
}

func (f far) acked(ack uint32) api.Packet {
	p := f.word(api.PAck)
	p.Ack = ack
	return p
}

func (f far) beat(stamp, echo uint32, z complex128) api.Packet {
	p := f.word(api.PBeat)
	p.Ack, p.Stamp, p.Echo, p.Z = first, stamp, echo, z
	return p
}

// words: one of each kind, and some that bring nothing new, all heard by an end
// that is Up with f.
func (f far) words() []api.Packet {
	return []api.Packet{f.stranger(), f.greeting(0), f.greeting(1), f.data(first, "d"), f.data(first+9, "e"), f.data(first-1, "f"),
		f.acked(first), f.acked(first + 99), f.beat(8, 9, 1), f.beat(0, 0, 0)}
}

// sent: what goes to a node, so that it can be compared.
type sent struct {
	to                                       int
	kind                                     int
	mine, boot, yours, seq, ack, stamp, echo uint32
	z                                        complex128
	body                                     string
}

func sentOf(t *testing.T, o peer.Out) sent {
	t.Helper()
	p, e := pack.Decode(o.Body)
	if e != api.OK {
		t.Errorf("P14.5: Out tells a body that pack.Decode refuses: %d", e)
	}
	return sent{o.To, p.Kind, p.Mine, p.Boot, p.Yours, p.Seq, p.Ack, p.Stamp, p.Echo, p.Z, string(p.Body)}
}

func sentAll(t *testing.T, l []peer.Out) []sent {
	t.Helper()
	var out []sent
	for _, o := range l {
		out = append(out, sentOf(t, o))
	}
	return out
}

// What the own node says to such an end.

// opens: of one that is not known in the attempt with that token.
func opens(node int, token uint32) sent { return sent{to: node, kind: api.PHello, mine: token} }

func (f far) said(kind int) sent {
	return sent{to: f.node, kind: kind, mine: f.yours, boot: f.boot, yours: f.mine}
}

// knows: a Hello of one that knows the end, in Opening.
func (f far) knows() sent { return f.said(api.PHello) }

// greets: a Hello in Up.
func (f far) greets() sent {
	s := f.knows()
	s.seq = 1
	return s
}

func (f far) sends(seq uint32, body string) sent {
	s := f.said(api.PData)
	s.seq, s.ack, s.body = seq, first, body
	return s
}

func (f far) acks(ack uint32) sent {
	s := f.said(api.PAck)
	s.ack = ack
	return s
}

func (f far) beats(stamp, echo uint32, z complex128) sent {
	s := f.said(api.PBeat)
	s.ack, s.stamp, s.echo, s.z = first, stamp, echo, z
	return s
}

func made(t *testing.T, me, nodes int, boot uint32) *peer.Peers {
	t.Helper()
	p, e := peer.New(me, nodes, boot)
	if p == nil || e != api.OK {
		t.Fatalf("P14.1: New(%d, %d, %d): %p, %d", me, nodes, boot, p, e)
	}
	return p
}

// fresh: the tests' own node, what it emitted being fetched.
func fresh(t *testing.T) *peer.Peers {
	t.Helper()
	p := made(t, me, nodes, ownBoot)
	p.Out()
	return p
}

// up: its links to these are Up, all events and what it emitted being fetched.
func up(t *testing.T, nodes ...int) *peer.Peers {
	t.Helper()
	p := fresh(t)
	for _, n := range nodes {
		rise(t, p, farOf(n))
	}
	return p
}

// rise: the link to f gets Up; all events and what was emitted are fetched,
// ahead of it and behind it.
func rise(t *testing.T, p *peer.Peers, f far) {
	t.Helper()
	p.Events()
	p.Out()
	wantTake(t, "P14.3: a Hello that is meant for this attempt", p, f, f.greeting(1), "")
	wantEvents(t, "P14.3: a Hello that is meant for this attempt", p, rose(f.node))
	wantOut(t, "P14.3: a Hello that is meant for this attempt", p, f.greets())
}

// queued: its link to a node is Up, with so many signals in the queue; what it
// emitted is fetched.
func queued(t *testing.T, node, n int) *peer.Peers {
	t.Helper()
	p := up(t, node)
	for i := range n {
		wantErr(t, "P14.4: Send", p.Send(node, []byte(signal(i))), api.OK)
	}
	wantQueue(t, "P14.4: Send", p, node, n)
	p.Out()
	return p
}

func signal(i int) string { return string([]byte{'s', byte(i)}) }

// ticks: so many, behind each of which these are heard.
func ticks(t *testing.T, p *peer.Peers, n int, heard ...far) {
	t.Helper()
	for range n {
		p.Tick()
		for _, f := range heard {
			wantTake(t, "P14.3: a Hello of one in Up", p, f, f.greeting(1), "")
		}
	}
}

func rose(node int) api.Event { return api.Event{Node: node, Up: true} }

func fell(node int) api.Event { return api.Event{Node: node} }

// laid: a packet's bytes.
func laid(t *testing.T, p api.Packet) []byte {
	t.Helper()
	b, e := pack.Encode(p)
	if e != api.OK {
		t.Fatalf("a packet of the tests may not be: %+v: %d", p, e)
	}
	return b
}

func wantErr(t *testing.T, what string, got, want api.Errno) {
	t.Helper()
	if got != want {
		t.Errorf("%s: %d, not %d", what, got, want)
	}
}

func wantTake(t *testing.T, what string, p *peer.Peers, f far, packet api.Packet, body string) {
	t.Helper()
	if got, e := p.Take(f.node, f.boot, laid(t, packet)); e != api.OK || string(got) != body {
		t.Errorf("%s: Take(%d, %d, kind %d): %q, %d, not %q", what, f.node, f.boot, packet.Kind, got, e, body)
	}
}

func wantRefused(t *testing.T, what string, p *peer.Peers, from int, boot uint32, b []byte, want api.Errno) {
	t.Helper()
	if got, e := p.Take(from, boot, b); e != want || len(got) != 0 {
		t.Errorf("%s: Take(%d, %d, %d bytes): %q, %d, not %d", what, from, boot, len(b), got, e, want)
	}
}

func wantEvents(t *testing.T, what string, p *peer.Peers, want ...api.Event) {
	t.Helper()
	if got := p.Events(); !slices.Equal(got, want) {
		t.Errorf("%s: the events are %v, not %v", what, got, want)
	}
}

// clip: as much as a message needs, with bodies that can be read.
func clip(l []sent) []sent {
	out := slices.Clone(l[:min(len(l), 8)])
	for i := range out {
		out[i].body = strconv.Quote(out[i].body[:min(len(out[i].body), 12)])
	}
	return out
}

func wantOut(t *testing.T, what string, p *peer.Peers, want ...sent) {
	t.Helper()
	if got := sentAll(t, p.Out()); !slices.Equal(got, want) {
		t.Errorf("%s: Out is %d %+v, not %d %+v", what, len(got), clip(got), len(want), clip(want))
	}
}

func wantPhase(t *testing.T, what string, p *peer.Peers, node, want int) {
	t.Helper()
	if got := p.Phase(node); got != want {
		t.Errorf("%s: the phase of %d is %d, not %d", what, node, got, want)
	}
}

func wantQueue(t *testing.T, what string, p *peer.Peers, node, want int) {
	t.Helper()
	if got := p.Queue(node); got != want {
		t.Errorf("%s: the queue of %d has %d, not %d", what, node, got, want)
	}
}

func wantUps(t *testing.T, what string, p *peer.Peers, want ...int) {
	t.Helper()
	if got := p.Ups(); !slices.Equal(got, want) {
		t.Errorf("%s: Ups is %v, not %v", what, got, want)
	}
}

func wantNear(t *testing.T, what string, p *peer.Peers, want ...int) {
	t.Helper()
	if got := p.Near(); !slices.Equal(got, want) {
		t.Errorf("%s: Near is %v, not %v", what, got, want)
	}
}

// sameBits tells -0 and 0 apart.
func sameBits(a, b complex128) bool {
	return math.Float64bits(real(a)) == math.Float64bits(real(b)) && math.Float64bits(imag(a)) == math.Float64bits(imag(b))
}

func wantOwn(t *testing.T, what string, p *peer.Peers, want complex128) {
	t.Helper()
	if got := p.Own(); !sameBits(got, want) {
		t.Errorf("%s: Own is %v, not %v", what, got, want)
	}
}

// quietFor: the link to a node is cut at the n-th tick from here on, and not
// ahead of it, the others being heard.
func quietFor(t *testing.T, what string, p *peer.Peers, node, n int, heard ...far) {
	t.Helper()
	p.Events()
	ticks(t, p, n-1, heard...)
	wantEvents(t, what+", ahead of the tick", p)
	wantPhase(t, what+", ahead of the tick", p, node, api.Up)
	ticks(t, p, 1, heard...)
	wantEvents(t, what, p, fell(node))
	wantPhase(t, what, p, node, api.Opening)
}

// wantStaysShut: the link to f is Shut, and nothing brings it up again; all
// that was emitted is fetched, the other links being in Opening.
func wantStaysShut(t *testing.T, what string, p *peer.Peers, f far) {
	t.Helper()
	for range 30 {
		wantPhase(t, what, p, f.node, api.Shut)
		wantQueue(t, what, p, f.node, 0)
		wantErr(t, what, p.Send(f.node, []byte("x")), api.ErrPeerDown)
		for _, word := range append(f.words(), f.newer().stranger(), f.newer().greeting(0)) {
			wantTake(t, what, p, f, word, "")
		}
		if got := ofNode(sentAll(t, p.Out()), f.node); len(got) > 0 {
			t.Errorf("%s: %+v is emitted", what, clip(got))
		}
		wantUps(t, what, p)
		p.Tick()
	}
	wantEvents(t, what, p)
}

// fate: all that can be told of p, now and through so many ticks that each link
// is cut, so that two can be held against each other. It is of no use then.
func fate(t *testing.T, p *peer.Peers) []string {
	t.Helper()
	var out []string
	for range 26 {
		out = append(out, now(t, p)...)
		p.Tick()
	}
	return out
}

// now: all that can be told of p as it stands; events and what it emitted are
// fetched.
func now(t *testing.T, p *peer.Peers) []string {
	t.Helper()
	out := []string{"ups"}
	number := func(n int) { out = append(out, strconv.Itoa(n)) }
	for _, n := range p.Ups() {
		number(n)
	}
	out = append(out, "near")
	for _, n := range p.Near() {
		number(n)
	}
	out = append(out, "own", strconv.FormatComplex(p.Own(), 'g', -1, 128), "phase, queue")
	for n := range nodes + 2 {
		number(p.Phase(n))
		number(p.Queue(n))
	}
	out = append(out, "events")
	for _, e := range p.Events() {
		out = append(out, strconv.Itoa(e.Node)+strconv.FormatBool(e.Up))
	}
	for _, o := range p.Out() {
		out = append(out, "out "+strconv.Itoa(o.To)+" "+strconv.Quote(string(o.Body)))
	}
	return out
}

func wantFate(t *testing.T, what string, p *peer.Peers, want []string) {
	t.Helper()
	got := fate(t, p)
	for i := range min(len(got), len(want)) {
		if got[i] != want[i] {
			t.Errorf("%s: it goes on another way: %s, not %s", what, got[i], want[i])
			return
		}
	}
	if len(got) != len(want) {
		t.Errorf("%s: it goes on another way", what)
	}
}

// maker makes calls, the same ones for the same seed.
type maker struct{ *rand.Rand }

func newMaker(seed int64) maker { return maker{rand.New(rand.NewSource(seed))} }

// body: of a length that a signal may have, mostly a short one.
func (k maker) body() []byte {
	n := 1 + k.Intn(6)
	if k.Intn(20) == 0 {
		n = 990 + k.Intn(11)
	}
	b := make([]byte, n)
	k.Read(b)
	return b
}
