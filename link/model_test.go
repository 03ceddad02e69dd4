package link_test

import (
	"math"
	"slices"
	"testing"

	"rookery/api"
	"rookery/link"
)

// model is an end by the chapter's words: all that they name stands here by
// itself, and numbers are reckoned in such as do not go round.
type model struct {
	boot, token         uint32
	phase               int
	newBoot, newToken   uint32
	known               bool
	queue               []string
	sent                int
	base, next, expects uint32
	idle                int
	out                 []plain
}

func plus(a uint32, n int) uint32 { return uint32((int64(a) + int64(n)) % (1 << 32)) }

func (m *model) emit(p plain) {
	if len(m.out) <= 1023 {
		m.out = append(m.out, p)
	}
}

func (m *model) hello() {
	p := plain{kind: 1, mine: m.token}
	if m.known {
		p.boot, p.yours = m.newBoot, m.newToken
	}
	if m.phase == 2 {
		p.seq = 1
	}
	m.emit(p)
}

func (m *model) word(kind int) plain {
	return plain{kind: kind, mine: m.token, boot: m.newBoot, yours: m.newToken, ack: m.expects}
}

func (m *model) data(i int) {
	p := m.word(2)
	p.seq, p.body = plus(m.base, i), m.queue[i]
	m.emit(p)
}

func (m *model) begin() {
	m.token, m.phase, m.known, m.queue, m.sent, m.idle = m.token+1, 1, false, nil, 0, 0
	m.base, m.next, m.expects = first, first, first
}

func (m *model) Open() api.Errno {
	if m.phase != 0 {
		return 110
	}
	if m.token == most32 {
		return 111
	}
	m.begin()
	m.hello()
	return 0
}

func (m *model) Shut() bool {
	was := m.phase
	m.phase, m.queue, m.sent, m.known = 0, nil, 0, false
	return was == 2
}

func (m *model) Send(b []byte) api.Errno {
	if m.phase != 2 {
		return 110
	}
	if len(b) < 1 || len(b) >= 1001 {
		return 112
	}
	if len(m.queue) == 64 {
		return 113
	}
	m.queue = append(m.queue, string(b))
	m.next = plus(m.next, 1)
	if m.sent <= 7 {
		if m.sent == 0 {
			m.idle = 0
		}
		m.data(m.sent)
		m.sent++
	}
	return 0
}

// Take: of a packet that may be, from a boot above 0.
func (m *model) Take(boot uint32, p plain) took {
	older := boot < m.newBoot || boot == m.newBoot && p.mine < m.newToken
	same := boot == m.newBoot && p.mine == m.newToken
	meant := p.boot == m.boot && p.yours == m.token
	if m.phase == 0 || older {
		return took{}
	}
	if p.kind == 1 {
		return m.takeHello(boot, p, same, meant)
	}
	if m.phase != 2 || !same || !meant {
		return took{}
	}
	t := took{heard: true}
	if p.kind == 2 && p.seq == m.expects {
		m.expects, t.body = plus(m.expects, 1), p.body
	}
	m.takeAck(p.ack)
	if p.kind == 2 {
		m.emit(m.word(3))
	}
	return t
}

func (m *model) takeHello(boot uint32, p plain, same, meant bool) took {
	t := took{heard: true}
	if m.phase == 1 {
		m.newBoot, m.newToken, m.known = boot, p.mine, true
		if meant {
			m.phase, t.up = 2, true
		}
		m.hello()
		return t
	}
	if same {
		if p.seq == 0 {
			m.hello()
		}
		return t
	}
	t.down = true
	if m.token == most32 {
		m.phase, m.known = 0, false
		return t
	}
	m.begin()
	m.newBoot, m.newToken, m.known = boot, p.mine, true
	m.hello()
	return t
}

func (m *model) takeAck(ack uint32) {
	for k := 1; k <= m.sent; k++ {
		if plus(m.base, k) != ack {
			continue
		}
		m.queue, m.base, m.sent, m.idle = m.queue[k:], ack, m.sent-k, 0
		for m.sent < 8 && m.sent < len(m.queue) {
			m.data(m.sent)
			m.sent++
		}
		return
	}
}

func (m *model) Tick() {
	if m.phase == 0 {
		return
	}
	if m.phase == 2 && m.sent == 0 {
		m.idle = 0
		return
	}
	m.idle++
	if m.idle != 3 {
		return
	}
	m.idle = 0
	if m.phase == 1 {
		m.hello()
	}
	for i := range m.sent {
		m.data(i)
	}
}

func (m *model) Beat(stamp, echo uint32, z complex128) api.Errno {
	if m.phase != 2 {
		return 110
	}
	for _, x := range []float64{real(z), imag(z)} {
		if x-x != 0 || x == 0 && math.Signbit(x) {
			return 101
		}
	}
	p := m.word(4)
	p.stamp, p.echo, p.z = stamp, echo, z
	m.emit(p)
	return 0
}

func (m *model) Out() []plain {
	out := m.out
	m.out = nil
	return out
}

// wantLike asks l all that can be asked without changing it.
func wantLike(t *testing.T, what string, l *link.Link, m *model) {
	t.Helper()
	wantPhase(t, what, l, m.phase, m.token)
	wantQueue(t, what, l, len(m.queue))
	if m.known {
		wantPeer(t, what, l, m.newBoot, m.newToken)
	} else {
		wantPeer(t, what, l, 0, 0)
	}
	if m.phase != 0 && (plus(m.base, len(m.queue)) != m.next || m.sent != min(len(m.queue), 8)) {
		t.Errorf("%s: the model is wrong: %#v", what, *m)
	}
}

// packet: one that may be, often such as does something to an end like m.
func (k maker) packet(m *model) api.Packet {
	p := api.Packet{Kind: 1 + k.Intn(4), Mine: max(1, k.near(m.newToken)), Boot: max(1, k.near(m.boot)), Yours: max(1, k.near(m.token))}
	if k.Intn(5) > 0 {
		p.Boot, p.Yours = m.boot, max(1, m.token)
	}
	switch p.Kind {
	case api.PHello:
		p.Seq = uint32(k.Intn(2))
		if k.Intn(4) == 0 {
			p.Boot, p.Yours = 0, 0
		}
	case api.PData:
		p.Seq, p.Ack, p.Body = k.near(m.expects), k.ack(m), k.body()
	case api.PAck:
		p.Ack = k.ack(m)
	case api.PBeat:
		p.Ack, p.Stamp, p.Echo, p.Z = k.ack(m), k.Uint32(), k.Uint32(), complex(k.NormFloat64(), k.NormFloat64())
	}
	return p
}

func (k maker) ack(m *model) uint32 {
	if k.Intn(30) == 0 {
		return k.Uint32()
	}
	return plus(m.base, 1<<32-1+k.Intn(m.sent+3))
}

// act does one thing to l and to m, and holds against each other what they
// answer.
func (k maker) act(t *testing.T, l *link.Link, m *model) {
	t.Helper()
	switch k.Intn(24) {
	default:
		b := k.body()
		wantErr(t, "P11.2: Send", l.Send(b), m.Send(b))
	case 0:
		wantErr(t, "P11.1: Open", l.Open(), m.Open())
	case 1:
		if k.Intn(12) == 0 {
			if got, want := l.Shut(), m.Shut(); got != want {
				t.Errorf("P11.1: Shut: %v", got)
			}
		}
	case 2, 3, 4, 5, 6, 7, 8, 9, 10, 11:
		p, boot := k.packet(m), max(1, k.near(m.newBoot))
		if p.Kind == api.PHello && m.phase == 2 && k.Intn(10) > 0 {
			p.Mine, boot = m.newToken, m.newBoot
		}
		got, e := l.Take(boot, p)
		if want := m.Take(boot, plainOf(p)); e != api.OK || tookOf(got) != want {
			t.Errorf("P11.3: Take(%d, %+v): %+v, %d, not %#v", boot, p, got, e, want)
		}
	case 12, 13, 14, 15:
		l.Tick()
		m.Tick()
	case 16:
		z := complex([]float64{1.5, 0, math.Copysign(0, -1), math.Inf(1), math.NaN()}[k.Intn(5)], k.NormFloat64())
		wantErr(t, "P11.4: Beat", l.Beat(3, 4, z), m.Beat(3, 4, z))
	case 17:
		if got, want := plainAll(l.Out()), m.Out(); !slices.Equal(got, want) {
			t.Errorf("P11.1: emitted %d %+v, not %d %+v", len(got), clip(got), len(want), clip(want))
		}
	}
}

// grown: an end, and its model, behind so many acts.
func (k maker) grown(t *testing.T, acts int) (*link.Link, *model) {
	t.Helper()
	m := &model{boot: 1 + uint32(k.Intn(3))}
	l := made(t, m.boot)
	for range acts {
		k.act(t, l, m)
	}
	return l, m
}

func TestP11_1To4Scripts(t *testing.T) {
	for seed := range int64(300) {
		k := newMaker(seed)
		l, m := k.grown(t, 0)
		if seed%10 == 0 {
			m.token = most32 - uint32(k.Intn(4))
			l.SkipTo(m.token)
		}
		for a := range 400 {
			k.act(t, l, m)
			wantLike(t, "P11.1: a script", l, m)
			if t.Failed() {
				t.Fatalf("seed %d, act %d", seed, a)
			}
		}
		wantOut(t, "P11.1: a script's end", l, m.Out()...)
	}
}
