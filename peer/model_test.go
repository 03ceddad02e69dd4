package peer_test

import (
	"math"
	"slices"
	"testing"

	"rookery/api"
	"rookery/chart"
	"rookery/link"
	"rookery/pack"
	"rookery/peer"
)

// model is all links of a node by the chapter's words, with ends of layer 11
// and a chart of layer 13; what goes round is reckoned in numbers that do not.
type model struct {
	me, nodes int
	boot      uint32
	now       int64
	ends      [65]*link.Link
	quiet     [65]int
	echo      [65]uint32
	chart     *chart.Chart
	events    []api.Event
}

func newModel(me, nodes int, boot uint32) *model {
	m := &model{me: me, nodes: nodes, boot: boot}
	for n := 1; n <= nodes; n++ {
		if n != me {
			m.ends[n], _ = link.New(boot)
			m.ends[n].Open()
		}
	}
	square := me * me
	for square >= 11 {
		square -= 11
	}
	m.chart, _ = chart.New(complex(float64(me), float64(square)))
	return m
}

func (m *model) isPeer(n int) bool { return n >= 1 && n <= m.nodes && n != m.me }

func (m *model) cut(n int) {
	if m.ends[n].Phase() == 2 {
		m.events = append(m.events, api.Event{Node: n, Up: false})
		m.chart.Forget(n)
	}
	m.ends[n].Shut()
	if m.ends[n].Token() != most32 {
		m.ends[n].Open()
	}
}

func (m *model) tick() {
	m.now = (m.now + 1) % (1 << 32)
	for n := 1; n <= m.nodes; n++ {
		if n == m.me {
			continue
		}
		if m.ends[n].Phase() == 2 {
			if m.quiet[n]++; m.quiet[n] >= 11 {
				m.cut(n)
			}
		}
		m.ends[n].Tick()
		if m.ends[n].Phase() == 2 {
			m.ends[n].Beat(uint32(m.now), m.echo[n], m.chart.Own())
		}
	}
}

func (m *model) take(from int, boot uint32, b []byte) (string, api.Errno) {
	if !m.isPeer(from) {
		return "", 140
	}
	if boot == 0 {
		return "", 2
	}
	p, e := pack.Decode(b)
	if e != 0 {
		return "", e
	}
	got, _ := m.ends[from].Take(boot, p)
	if got.Heard {
		m.quiet[from] = 0
	}
	if got.Down {
		m.events = append(m.events, api.Event{Node: from, Up: false})
		m.chart.Forget(from)
	}
	if got.Up {
		m.events = append(m.events, api.Event{Node: from, Up: true})
		m.quiet[from], m.echo[from] = 0, 0
	}
	if p.Kind == 4 && got.Heard {
		m.echo[from] = p.Stamp
		t := m.now - int64(p.Echo)
		if t < 0 {
			t += 1 << 32
		}
		if p.Echo != 0 && t <= 1048576 {
			m.chart.Hear(from, p.Z, int(t))
		}
	}
	return string(got.Body), 0
}

func (m *model) send(to int, b []byte) api.Errno {
	if !m.isPeer(to) {
		return 140
	}
	if m.ends[to].Phase() != 2 {
		return 141
	}
	e := m.ends[to].Send(b)
	if e == 113 {
		m.cut(to)
		return 142
	}
	return e
}

func (m *model) out(t *testing.T) []sent {
	t.Helper()
	var out []sent
	for n := 1; n <= m.nodes; n++ {
		if n == m.me {
			continue
		}
		for _, p := range m.ends[n].Out() {
			b, _ := pack.Encode(p)
			out = append(out, sentOf(t, peer.Out{To: n, Body: b}))
		}
	}
	return out
}

func (m *model) fetched() []api.Event {
	out := m.events
	m.events = nil
	return out
}

func (m *model) ups() []int {
	var out []int
	for n := 1; n <= m.nodes; n++ {
		if m.isPeer(n) && m.ends[n].Phase() == 2 {
			out = append(out, n)
		}
	}
	return out
}

// wantLike asks p all that can be asked without changing it.
func wantLike(t *testing.T, what string, p *peer.Peers, m *model) {
	t.Helper()
	wantUps(t, what, p, m.ups()...)
	wantNear(t, what, p, m.chart.Near(m.ups())...)
	wantOwn(t, what, p, m.chart.Own())
	for n := -1; n <= m.nodes+1; n++ {
		phase, queue := 0, 0
		if m.isPeer(n) {
			phase, queue = m.ends[n].Phase(), m.ends[n].Queue()
		}
		wantPhase(t, what, p, n, phase)
		wantQueue(t, what, p, n, queue)
	}
}

// near: x, or a number close by.
func (k maker) near(x uint32) uint32 {
	if k.Intn(6) > 0 {
		return x
	}
	return x + uint32(k.Intn(5)) - 2
}

func (k maker) part() float64 {
	return []float64{0, 1, -2.5, 1e200, math.MaxFloat64, k.NormFloat64() * 30, k.NormFloat64() * 30, k.NormFloat64() * 30}[k.Intn(8)]
}

// packet: one that may be, often such as does something to the end at n; and
// the boot of its sender.
func (k maker) packet(m *model, n int) (uint32, api.Packet) {
	end := m.ends[n]
	boot, mine := end.Peer()
	p := api.Packet{Kind: 1 + k.Intn(4), Mine: max(1, k.near(max(1, mine))), Boot: max(1, k.near(m.boot)), Yours: max(1, k.near(max(1, end.Token())))}
	boot = max(1, k.near(max(1, boot)))
	if k.Intn(4) > 0 {
		p.Kind = api.PBeat
	}
	if end.Phase() != api.Up || k.Intn(40) == 0 {
		p.Kind = api.PHello
	}
	switch p.Kind {
	case api.PHello:
		p.Seq = uint32(k.Intn(2))
		if k.Intn(4) == 0 {
			p.Boot, p.Yours = 0, 0
		}
	case api.PData:
		p.Seq, p.Ack, p.Body = first+uint32(k.Intn(6)), first+uint32(k.Intn(20)), k.body()
	case api.PAck:
		p.Ack = first + uint32(k.Intn(20))
	case api.PBeat:
		p.Ack, p.Stamp, p.Echo, p.Z = first, k.Uint32(), k.echo(m), complex(k.part(), k.part())
	}
	return boot, p
}

func (k maker) echo(m *model) uint32 {
	switch k.Intn(8) {
	case 0:
		return 0
	case 1:
		return k.Uint32()
	case 2:
		return uint32(m.now - 1<<20 - 1 + int64(k.Intn(3)))
	case 3:
		return uint32(m.now + 1)
	}
	return uint32(m.now - int64(k.Intn(80)))
}

// number: mostly a peer's.
func (k maker) number(m *model) int {
	if k.Intn(12) == 0 {
		return noPeers[k.Intn(len(noPeers))]
	}
	return 1 + k.Intn(m.nodes)
}

// act does one thing to p and to m, and holds against each other what they
// answer.
func (k maker) act(t *testing.T, p *peer.Peers, m *model) {
	t.Helper()
	n := k.number(m)
	switch k.Intn(20) {
	case 0, 1, 2:
		p.Tick()
		m.tick()
	case 3:
		if !slices.Equal(p.Events(), m.fetched()) {
			t.Error("P14.5: the events are others")
		}
	case 4:
		wantOut(t, "P14.5: a script", p, m.out(t)...)
	case 5, 6, 7, 8:
		for range []int{1, 1, 1, 2, 20}[k.Intn(5)] {
			b := k.body()
			wantErr(t, "P14.4: a script", p.Send(n, b), m.send(n, b))
		}
	case 9:
		b := bytesOf([]int{0, 1001}[k.Intn(2)])
		wantErr(t, "P14.4: a script", p.Send(n, b), m.send(n, b))
	default:
		k.takes(t, p, m, n)
	}
}

// takes: a packet comes, that is sometimes spoilt.
func (k maker) takes(t *testing.T, p *peer.Peers, m *model, n int) {
	t.Helper()
	boot, b := uint32(1), []byte{1}
	if m.isPeer(n) {
		var packet api.Packet
		boot, packet = k.packet(m, n)
		b = laid(t, packet)
	}
	switch k.Intn(30) {
	case 0:
		boot = 0
	case 1:
		b = b[:k.Intn(len(b))]
	case 2:
		b[k.Intn(len(b))] ^= byte(1 + k.Intn(255))
	}
	got, e := p.Take(n, boot, b)
	if body, want := m.take(n, boot, b); e != want || string(got) != body {
		t.Errorf("P14.3: Take(%d, %d, %x): %q, %d, not %q, %d", n, boot, b[:min(len(b), 40)], got, e, body, want)
	}
}

// grown: peers and their model, behind so many acts.
func (k maker) grown(t *testing.T, acts int) (*peer.Peers, *model) {
	t.Helper()
	n := 1 + k.Intn(6)
	if k.Intn(20) == 0 {
		n = 64
	}
	m := newModel(1+k.Intn(n), n, 1+uint32(k.Intn(3)))
	p := made(t, m.me, m.nodes, m.boot)
	if k.Intn(3) == 0 {
		m.now = most32 - int64(k.Intn(30))
		p.SkipTo(uint32(m.now))
	}
	for range acts {
		k.act(t, p, m)
	}
	return p, m
}

func TestP14_1To5Scripts(t *testing.T) {
	ups, downs, moves := 0, 0, 0
	for seed := range int64(400) {
		k := newMaker(seed)
		p, m := k.grown(t, 0)
		for a := range 500 {
			had, own := len(m.events), m.chart.Own()
			k.act(t, p, m)
			wantLike(t, "P14.5: a script", p, m)
			if t.Failed() {
				t.Fatalf("seed %d, act %d", seed, a)
			}
			for _, e := range m.events[min(had, len(m.events)):] {
				if e.Up {
					ups++
				} else {
					downs++
				}
			}
			if m.chart.Own() != own {
				moves++
			}
		}
		wantOut(t, "P14.5: a script's end", p, m.out(t)...)
		wantEvents(t, "P14.5: a script's end", p, m.fetched()...)
	}
	if ups < 3000 || downs < 2000 || moves < 3000 {
		t.Errorf("too little happened: %d ups, %d downs, %d moves", ups, downs, moves)
	}
}
