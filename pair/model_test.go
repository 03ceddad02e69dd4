package pair_test

import (
	"slices"
	"testing"

	"rookery/api"
	"rookery/link"
	"rookery/pair"
)

// comes: a packet in flight in a model.
type comes struct {
	to   int
	boot uint32
	p    api.Packet
}

// model is a pair by the chapter's words, with ends of layer 11.
type model struct {
	ends   [2]*link.Link
	boots  [2]uint32
	links  [2]bond // the one that is, or was, up
	flight []comes
	logs   [2][]seen
}

func newModel() *model {
	m := &model{boots: [2]uint32{1, 1}}
	m.ends[0], _ = link.New(1)
	m.ends[1], _ = link.New(1)
	return m
}

// refusal: P12.1's errors but the ends', in its order.
func (m *model) refusal(a pair.Act) api.Errno {
	isEnd, isFlight := slices.Contains(endActs, a.Kind), slices.Contains(flightActs, a.Kind)
	if !isEnd && !isFlight {
		return 121
	}
	if isEnd && a.Side != 0 && a.Side != 1 {
		return 120
	}
	if isFlight {
		for i := range m.flight {
			if i == a.I {
				return 0
			}
		}
		return 122
	}
	return 0
}

func (m *model) do(a pair.Act) api.Errno {
	if e := m.refusal(a); e != 0 {
		return e
	}
	var e api.Errno
	switch a.Kind {
	case 1:
		e = m.ends[a.Side].Open()
	case 2:
		if m.ends[a.Side].Shut() {
			m.log(a.Side, 2, "")
		}
	case 3:
		if e = m.ends[a.Side].Send(a.Body); e == 0 {
			m.log(a.Side, 3, string(a.Body))
		}
	case 4:
		m.ends[a.Side].Tick()
	case 5:
		m.boots[a.Side]++
		m.ends[a.Side], e = link.New(m.boots[a.Side])
		m.logs[a.Side] = append(m.logs[a.Side], seen{kind: 5, boot: m.boots[a.Side]})
	case 6:
		c := m.lose(a.I)
		m.take(c)
	case 7:
		m.lose(a.I)
	case 8:
		m.put(m.flight[a.I])
	}
	m.fetch()
	return e
}

func (m *model) log(side, kind int, body string) {
	m.logs[side] = append(m.logs[side], m.links[side].saw(kind, body))
}

func (m *model) lose(i int) comes {
	c := m.flight[i]
	m.flight = append(append([]comes{}, m.flight[:i]...), m.flight[i+1:]...)
	return c
}

func (m *model) put(c comes) {
	if len(m.flight) <= 1023 {
		m.flight = append(m.flight, c)
	}
}

func (m *model) take(c comes) {
	got, _ := m.ends[c.to].Take(c.boot, c.p)
	if got.Down {
		m.log(c.to, 2, "")
	}
	if got.Up {
		m.links[c.to] = bond{m.boots[c.to], m.ends[c.to].Token(), c.boot, c.p.Mine}
		m.log(c.to, 1, "")
	}
	if got.Body != nil {
		m.log(c.to, 4, string(got.Body))
	}
}

func (m *model) fetch() {
	for _, p := range m.ends[0].Out() {
		m.put(comes{1, m.boots[0], p})
	}
	for _, p := range m.ends[1].Out() {
		m.put(comes{0, m.boots[1], p})
	}
}

func (m *model) state() state {
	return state{len(m.flight), [2]int{m.ends[0].Phase(), m.ends[1].Phase()}, [2]int{m.ends[0].Queue(), m.ends[1].Queue()}}
}

// mood: how often a script does what.
type mood struct {
	open, shut, send, tick, boot, deliver, drop, twin, flood int
	wrong                                                    int // acts that may be none
	first                                                    int // of ten packets so many are the first in flight
}

var moods = []mood{
	{open: 3, shut: 1, send: 10, tick: 6, boot: 1, deliver: 30, drop: 2, twin: 2, wrong: 3, first: 5},
	{open: 8, shut: 6, send: 4, tick: 3, boot: 4, deliver: 12, drop: 1, twin: 6, wrong: 3, first: 3},
	{open: 4, send: 30, tick: 10, deliver: 60, drop: 8, twin: 8, wrong: 2, first: 8},
	{open: 8, shut: 2, send: 30, tick: 20, boot: 1, deliver: 40, drop: 1, twin: 20, flood: 1, wrong: 1, first: 2},
	{open: 10, shut: 10, boot: 10, deliver: 10, twin: 10, flood: 1, first: 1},
}

// pick: an act of a script, so many being in flight.
func (k maker) pick(m mood, flight int) pair.Act {
	a := pair.Act{Side: k.Intn(2), I: k.Intn(max(1, flight))}
	if k.Intn(10) < m.first {
		a.I = 0
	}
	n := k.Intn(m.open + m.shut + m.send + m.tick + m.boot + m.deliver + m.drop + m.twin + m.wrong)
	for i, w := range []int{m.open, m.shut, m.send, m.tick, m.boot, m.deliver, m.drop, m.twin} {
		if n -= w; n < 0 {
			a.Kind = i + 1
			break
		}
	}
	if a.Kind == pair.Send {
		a.Body = k.body()
	}
	if a.Kind == 0 {
		a = pair.Act{Kind: k.Intn(11) - 1, Side: k.Intn(4) - 1, I: k.Intn(flight+3) - 1, Body: make([]byte, []int{0, 1, 1000, 1001}[k.Intn(4)])}
	}
	return a
}

// acts: what comes next in a script: an act, or one that is done again and again.
func (k maker) acts(m mood, flight int) []pair.Act {
	a := k.pick(m, flight)
	if m.flood > 0 && flight > 0 && k.Intn(150) < m.flood {
		return times(k.Intn(1100), of(pair.Twin, k.Intn(flight)))
	}
	return []pair.Act{a}
}

func TestP12_1To3Scripts(t *testing.T) {
	for seed := range int64(300) {
		k, p, m := newMaker(seed), pair.New(), newModel()
		kind := moods[int(seed)%len(moods)]
		for n := range 400 {
			for _, a := range k.acts(kind, len(m.flight)) {
				wantErr(t, "P12.1: a script", p, a, m.do(a))
			}
			wantState(t, "P12.3: a script", p, m.state())
			if n%40 == 39 {
				wantWhole(t, "P12.2: a script", p, whole{m.state(), m.logs})
			}
			if t.Failed() {
				t.Fatalf("seed %d, act %d", seed, n)
			}
		}
	}
}
