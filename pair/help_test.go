package pair_test

import (
	"math/rand"
	"slices"
	"strconv"
	"testing"

	"rookery/api"
	"rookery/pair"
)

const most32 = 1<<32 - 1

// numbers: such as are no side, and no packet in flight either.
var numbers = []int{-1 << 63, -2, -1, 1024, 5000, 1<<63 - 1}

// seen: an entry that can be compared; an empty Body is a nil one (R3).
type seen struct {
	kind                    int
	boot, mine, peer, yours uint32
	body                    string
}

func seenAll(l []pair.Entry) []seen {
	var out []seen
	for _, e := range l {
		out = append(out, seen{e.Kind, e.Boot, e.Mine, e.Peer, e.Yours, string(e.Body)})
	}
	return out
}

// bond: a side's boot and token, and those of the other side.
type bond struct{ boot, mine, peer, yours uint32 }

func (b bond) turned() bond { return bond{b.peer, b.yours, b.boot, b.mine} }

// saw: an entry of the link b.
func (b bond) saw(kind int, body string) seen {
	return seen{kind, b.boot, b.mine, b.peer, b.yours, body}
}

func booted(boot uint32) seen { return seen{kind: pair.EntBoot, boot: boot} }

// state: what can be told of a pair but its logs.
type state struct {
	flight        int
	phases, queue [2]int
}

func stateOf(p *pair.Pair) state {
	return state{p.Flight(), [2]int{p.Phase(0), p.Phase(1)}, [2]int{p.Queue(0), p.Queue(1)}}
}

func wantState(t *testing.T, what string, p *pair.Pair, want state) {
	t.Helper()
	if got := stateOf(p); got != want {
		t.Errorf("%s: %+v, not %+v", what, got, want)
	}
}

func wantFlight(t *testing.T, what string, p *pair.Pair, want int) {
	t.Helper()
	if got := p.Flight(); got != want {
		t.Errorf("%s: %d in flight, not %d", what, got, want)
	}
}

func wantPhase(t *testing.T, what string, p *pair.Pair, side, want int) {
	t.Helper()
	if got := p.Phase(side); got != want {
		t.Errorf("%s: the phase of %d is %d, not %d", what, side, got, want)
	}
}

// clip: as many entries as a message needs, the last ones, with bodies that can
// be read.
func clip(l []seen) []seen {
	out := slices.Clone(l[max(0, len(l)-8):])
	for i := range out {
		out[i].body = strconv.Quote(out[i].body[:min(len(out[i].body), 12)])
	}
	return out
}

func wantLog(t *testing.T, what string, p *pair.Pair, side int, want ...seen) {
	t.Helper()
	if got := seenAll(p.Log(side)); !slices.Equal(got, want) {
		t.Errorf("%s: the log of %d is %d %+v, not %d %+v", what, side, len(got), clip(got), len(want), clip(want))
	}
}

// wantMore: a side's log goes on behind the entries it had.
func wantMore(t *testing.T, what string, p *pair.Pair, side int, had []seen, more ...seen) {
	t.Helper()
	wantLog(t, what, p, side, append(slices.Clone(had), more...)...)
}

// whole: all that can be told of a pair.
type whole struct {
	state
	logs [2][]seen
}

func wholeOf(p *pair.Pair) whole {
	return whole{stateOf(p), [2][]seen{seenAll(p.Log(0)), seenAll(p.Log(1))}}
}

func wantWhole(t *testing.T, what string, p *pair.Pair, want whole) {
	t.Helper()
	wantState(t, what, p, want.state)
	for s := range 2 {
		wantLog(t, what, p, s, want.logs[s]...)
	}
}

func wantErr(t *testing.T, what string, p *pair.Pair, a pair.Act, want api.Errno) {
	t.Helper()
	if got := p.Do(a); got != want {
		t.Errorf("%s: Do of kind %d, side %d, I %d, %d bytes: %d, not %d", what, a.Kind, a.Side, a.I, len(a.Body), got, want)
	}
}

// wantRefused: it is refused, and nothing of it can be told.
func wantRefused(t *testing.T, what string, p *pair.Pair, a pair.Act, want api.Errno) {
	t.Helper()
	was := wholeOf(p)
	wantErr(t, what, p, a, want)
	wantWhole(t, what, p, was)
}

// must: nothing is refused.
func must(t *testing.T, what string, p *pair.Pair, acts ...pair.Act) {
	t.Helper()
	for _, a := range acts {
		wantErr(t, what, p, a, api.OK)
	}
}

// at: an act of an end.
func at(kind, side int) pair.Act { return pair.Act{Kind: kind, Side: side} }

// of: an act of a packet in flight.
func of(kind, i int) pair.Act { return pair.Act{Kind: kind, I: i} }

func send(side int, body string) pair.Act {
	return pair.Act{Kind: pair.Send, Side: side, Body: []byte(body)}
}

// times: an act, so many times.
func times(n int, a pair.Act) []pair.Act { return slices.Repeat([]pair.Act{a}, n) }

// drain: all packets come, in order, until none is in flight.
func drain(t *testing.T, p *pair.Pair) {
	t.Helper()
	for n := 0; p.Flight() > 0; n++ {
		must(t, "P12.1: Deliver", p, of(pair.Deliver, 0))
		if n > 5000 {
			t.Fatal("P12.1: packets without end")
		}
	}
}

// loseAll: all packets are lost.
func loseAll(t *testing.T, p *pair.Pair) {
	t.Helper()
	must(t, "P12.1: Drop", p, times(p.Flight(), of(pair.Drop, 0))...)
	wantFlight(t, "P12.1: Drop of all", p, 0)
}

// fill: the first packet is doubled until so many are in flight.
func fill(t *testing.T, p *pair.Pair, n int) {
	t.Helper()
	must(t, "P12.1: Twin", p, times(n-p.Flight(), of(pair.Twin, 0))...)
	wantFlight(t, "P12.1: Twin", p, n)
}

// opening: both are Opening, and nothing is in flight.
func opening(t *testing.T) *pair.Pair {
	t.Helper()
	p := pair.New()
	must(t, "P12.1: Open", p, at(pair.Open, 0), at(pair.Open, 1))
	loseAll(t, p)
	wantState(t, "P12.1: both opened", p, state{phases: [2]int{api.Opening, api.Opening}})
	return p
}

// near: the link that up makes, as side 0 sees it.
var near = bond{3, 2, 2, 4}

func nearOf(side int) bond {
	if side == 0 {
		return near
	}
	return near.turned()
}

// up: both are Up, and nothing is in flight. Boots and tokens differ all, but
// for side 0's token and side 1's boot.
func up(t *testing.T) *pair.Pair {
	t.Helper()
	p := pair.New()
	must(t, "P12.1: Boot", p, at(pair.Boot, 0), at(pair.Boot, 0), at(pair.Boot, 1))
	must(t, "P12.1: Open, Shut", p, at(pair.Open, 0), at(pair.Shut, 0))
	for range 3 {
		must(t, "P12.1: Open, Shut", p, at(pair.Open, 1), at(pair.Shut, 1))
	}
	loseAll(t, p)
	must(t, "P12.1: Open", p, at(pair.Open, 0), at(pair.Open, 1))
	drain(t, p)
	wantState(t, "P12.1: both up", p, state{phases: [2]int{api.Up, api.Up}})
	wantLog(t, "P12.2: both up", p, 0, booted(2), booted(3), near.saw(pair.EntUp, ""))
	wantLog(t, "P12.2: both up", p, 1, booted(2), near.turned().saw(pair.EntUp, ""))
	return p
}

// signal: the i-th of those that the tests send.
func signal(i int) string { return string([]byte{'s', byte(i)}) }

// queued: both are Up, a side has sent so many signals, of which all that were
// emitted are in flight.
func queued(t *testing.T, side, n int) *pair.Pair {
	t.Helper()
	p := up(t)
	for i := range n {
		must(t, "P12.1: Send", p, send(side, signal(i)))
	}
	wantFlight(t, "P12.1: Send", p, min(n, 8))
	return p
}

// got: the bodies that a side got.
func got(p *pair.Pair, side int) []string {
	var out []string
	for _, e := range p.Log(side) {
		if e.Kind == pair.EntGot {
			out = append(out, string(e.Body))
		}
	}
	return out
}

func wantGot(t *testing.T, what string, p *pair.Pair, side int, want ...string) {
	t.Helper()
	if l := got(p, side); !slices.Equal(l, want) {
		t.Errorf("%s: side %d got %.200q, not %.200q", what, side, l, want)
	}
}

// maker makes acts, the same ones for the same seed.
type maker struct{ *rand.Rand }

func newMaker(seed int64) maker { return maker{rand.New(rand.NewSource(seed))} }

// body: of a length that a signal may have, mostly a short one.
func (m maker) body() []byte {
	n := 1 + m.Intn(6)
	if m.Intn(20) == 0 {
		n = 990 + m.Intn(11)
	}
	b := make([]byte, n)
	m.Read(b)
	return b
}
