package dgram_test

import (
	"bytes"
	"fmt"
	"math/rand"
	"slices"
	"testing"

	"rookery/api"
	"rookery/dgram"
)

// one: what a net should tell of one datagram; its bytes as a text, which
// nobody can change.
type one struct {
	from, to int
	n        uint64
	b        string
	spoilt   bool
}

// String keeps messages free of raw bytes.
func (o one) String() string {
	return fmt.Sprintf("{%d to %d, %d, %q, %v}", o.from, o.to, o.n, o.b, o.spoilt)
}

func plain(d api.Datagram) one { return one{d.From, d.To, d.N, string(d.B), d.Spoilt} }

func plainAll(l []api.Datagram) []one {
	var out []one
	for _, d := range l {
		out = append(out, plain(d))
	}
	return out
}

// model: what a net must be, in the chapter's words; lists are made anew.
type model struct {
	nodes  int
	sent   uint64
	flight []one
	boxes  [65][]one
	lost   int
}

func (m *model) node(k int) bool { return k >= 1 && k <= m.nodes }

func (m *model) there(i int) bool { return i >= 0 && i < len(m.flight) }

func (m *model) behind(d one) {
	if len(m.flight) == 1024 {
		m.lost++
		return
	}
	m.flight = slices.Concat(m.flight, []one{d})
}

func (m *model) out(i int) one {
	d := m.flight[i]
	m.flight = slices.Concat(m.flight[:i], m.flight[i+1:])
	return d
}

func (m *model) Send(from, to int, b []byte) api.Errno {
	switch {
	case !m.node(from), !m.node(to), from == to:
		return api.ErrDgramNode
	case len(b) > 1212:
		return api.ErrDgramLong
	}
	m.sent++
	m.behind(one{from, to, m.sent, string(b), false})
	return api.OK
}

func (m *model) Deliver(i int) api.Errno {
	if !m.there(i) {
		return api.ErrDgramNone
	}
	d := m.out(i)
	if len(m.boxes[d.to]) == 64 {
		m.lost++
		return api.OK
	}
	m.boxes[d.to] = slices.Concat(m.boxes[d.to], []one{d})
	return api.OK
}

func (m *model) Drop(i int) api.Errno {
	if !m.there(i) {
		return api.ErrDgramNone
	}
	m.out(i)
	m.lost++
	return api.OK
}

func (m *model) Twin(i int) api.Errno {
	if !m.there(i) {
		return api.ErrDgramNone
	}
	m.behind(m.flight[i])
	return api.OK
}

func (m *model) Spoil(i, at int, mask uint32) api.Errno {
	if !m.there(i) {
		return api.ErrDgramNone
	}
	d := m.flight[i]
	if d.spoilt {
		return api.ErrDgramTwice
	}
	if at < 0 || at > len(d.b)-1 {
		return api.ErrDgramPlace
	}
	d.b, d.spoilt = turned(d.b, at, mask), true
	m.flight = slices.Concat(m.flight[:i], []one{d}, m.flight[i+1:])
	return api.OK
}

// turned: the text with the four bytes of mask laid over it from at on.
func turned(s string, at int, mask uint32) string {
	four := []byte{byte(mask / 16777216), byte(mask / 65536 % 256), byte(mask / 256 % 256), byte(mask % 256)}
	out := []byte(s)
	for k, x := range four {
		if at+k < len(out) {
			out[at+k] = out[at+k] ^ x
		}
	}
	return string(out)
}

func (m *model) Take(node int) (one, bool, api.Errno) {
	if !m.node(node) {
		return one{}, false, api.ErrDgramNode
	}
	if len(m.boxes[node]) == 0 {
		return one{}, false, api.OK
	}
	d := m.boxes[node][0]
	m.boxes[node] = slices.Clone(m.boxes[node][1:])
	return d, true, api.OK
}

func (m *model) Wipe(node int) api.Errno {
	if !m.node(node) {
		return api.ErrDgramNode
	}
	m.lost += len(m.boxes[node])
	m.boxes[node] = nil
	return api.OK
}

// made: a net of so many nodes.
func made(t *testing.T, nodes int) *dgram.Net {
	t.Helper()
	n, e := dgram.New(nodes)
	if n == nil || e != api.OK {
		t.Fatalf("P9.1: New(%d): %v, %d", nodes, n, e)
	}
	return n
}

func wantErr(t *testing.T, what string, got, want api.Errno) {
	t.Helper()
	if got != want {
		t.Errorf("%s: %d, not %d", what, got, want)
	}
}

func must(t *testing.T, what string, got api.Errno) {
	t.Helper()
	wantErr(t, what, got, api.OK)
}

// clip: as many bytes as a message needs.
func clip(l []one) []one {
	out := slices.Clone(l[:min(len(l), 6)])
	for i := range out {
		out[i].b = out[i].b[:min(len(out[i].b), 12)]
	}
	return out
}

func wantFlight(t *testing.T, what string, n *dgram.Net, want ...one) {
	t.Helper()
	if got := plainAll(n.Flight()); !slices.Equal(got, want) {
		t.Errorf("%s: in flight %d %v, not %d %v", what, len(got), clip(got), len(want), clip(want))
	}
}

func wantLost(t *testing.T, what string, n *dgram.Net, want int) {
	t.Helper()
	if got := n.Lost(); got != want {
		t.Errorf("%s: Lost: %d, not %d", what, got, want)
	}
}

func wantBox(t *testing.T, what string, n *dgram.Net, node, want int) {
	t.Helper()
	if got := n.Box(node); got != want {
		t.Errorf("%s: Box(%d): %d, not %d", what, node, got, want)
	}
}

func wantTake(t *testing.T, what string, n *dgram.Net, node int, want one) {
	t.Helper()
	d, ok, e := n.Take(node)
	if plain(d) != want || !ok || e != api.OK {
		t.Errorf("%s: Take(%d): %v, %v, %d, not %v", what, node, clip([]one{plain(d)}), ok, e, clip([]one{want}))
	}
}

// wantNoTake: nothing is answered beside the error.
func wantNoTake(t *testing.T, what string, n *dgram.Net, node int, want api.Errno) {
	t.Helper()
	d, ok, e := n.Take(node)
	if d.From != 0 || d.To != 0 || d.N != 0 || len(d.B) != 0 || d.Spoilt || ok || e != want {
		t.Errorf("%s: Take(%d): %v, %v, %d, not %d", what, node, plain(d), ok, e, want)
	}
}

// wantState asks n all that can be asked without changing it.
func wantState(t *testing.T, what string, n *dgram.Net, m *model) {
	t.Helper()
	wantFlight(t, what, n, m.flight...)
	wantLost(t, what, n, m.lost)
	for node := range m.boxes {
		wantBox(t, what, n, node, len(m.boxes[node]))
	}
}

// wantEmptied takes all that is in n's boxes, and holds it against m's.
func wantEmptied(t *testing.T, what string, n *dgram.Net, m *model) {
	t.Helper()
	for node := 1; node <= m.nodes; node++ {
		for _, d := range m.boxes[node] {
			wantTake(t, what, n, node, d)
		}
		wantNoTake(t, what, n, node, api.OK)
	}
}

// filled: a net of three nodes with so many in flight from 1 to 2, each with
// its number as bytes.
func filled(t *testing.T, count int) (*dgram.Net, *model) {
	t.Helper()
	n, m := made(t, 3), &model{nodes: 3}
	for i := range count {
		b := []byte{byte(i >> 8), byte(i), 'x', 'y', 'z'}
		must(t, "P9.1: Send", n.Send(1, 2, b))
		m.Send(1, 2, b)
	}
	return n, m
}

// boxed: a net of three nodes with so many in the box of 2.
func boxed(t *testing.T, count int) (*dgram.Net, *model) {
	t.Helper()
	n, m := filled(t, count)
	for range count {
		must(t, "P9.2: Deliver", n.Deliver(0))
		m.Deliver(0)
	}
	return n, m
}

// maker makes acts, the same ones for the same seed.
type maker struct{ *rand.Rand }

func newMaker(seed int64) maker { return maker{rand.New(rand.NewSource(seed))} }

func (m maker) bytes(n int) []byte {
	b := make([]byte, n)
	m.Read(b)
	return b
}

// some: bytes of any length, often a short one or one at the bound.
func (m maker) some() []byte {
	switch m.Intn(8) {
	case 0:
		return m.bytes(1208 + m.Intn(5))
	case 1:
		return m.bytes(m.Intn(1213))
	case 2:
		return bytes.Repeat([]byte{7}, m.Intn(5))
	}
	return m.bytes(m.Intn(12))
}

// near: a number from -1 to n, mostly one from 0 to n - 1.
func (m maker) near(n int) int {
	if n == 0 || m.Intn(10) == 0 {
		return []int{-1, 0, n - 1, n}[m.Intn(4)]
	}
	return m.Intn(n)
}

// mask: any, often one with few bits, or none.
func (m maker) mask() uint32 {
	switch m.Intn(4) {
	case 0:
		return 0
	case 1:
		return 1 << m.Intn(32)
	}
	return m.Uint32()
}
