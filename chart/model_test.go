package chart_test

import (
	"math"
	"math/big"
	"slices"
	"testing"

	"rookery/api"
	"rookery/chart"
)

// step: one sum, difference, product or quotient, worked out as a fraction
// of whole numbers and then rounded once.
func step(sign byte, x, y float64) float64 {
	a, b, out := new(big.Rat), new(big.Rat), new(big.Rat)
	if a.SetFloat64(x) == nil || b.SetFloat64(y) == nil {
		return plainStep(sign, x, y)
	}
	switch sign {
	case '+':
		out.Add(a, b)
	case '-':
		out.Sub(a, b)
	case '*':
		out.Mul(a, b)
	case '/':
		out.Quo(a, b)
	}
	f, _ := out.Float64()
	return f
}

// plainStep: what no fraction can say, the floats themselves say.
func plainStep(sign byte, x, y float64) float64 {
	switch sign {
	case '+':
		return x + y
	case '-':
		return x - y
	case '*':
		return x * y
	}
	return x / y
}

// model: a chart by the chapter's words.
type model struct {
	own   complex128
	place [api.MaxNode + 1]complex128
	known [api.MaxNode + 1]bool
}

func (m *model) knows(node int) bool { return node >= 1 && node <= api.MaxNode && m.known[node] }

func squareOf(own, z complex128) (p, q, s float64) {
	p = step('-', real(own), real(z))
	q = step('-', imag(own), imag(z))
	return p, q, step('+', step('*', p, p), step('*', q, q))
}

func finite(x float64) bool { return !math.IsInf(x, 0) && !math.IsNaN(x) }

func movedTo(own, z complex128, trip int) complex128 {
	p, q, s := squareOf(own, z)
	w := step('*', float64(trip), float64(trip))
	g := step('/', step('/', step('-', w, s), step('+', step('+', w, s), 1)), 64)
	x := step('+', real(own), step('*', p, g))
	y := step('+', imag(own), step('*', q, g))
	if s == 0 || !finite(x) || !finite(y) {
		return own
	}
	if x == 0 {
		x = 0
	}
	if y == 0 {
		y = 0
	}
	return complex(x, y)
}

func (m *model) hear(node int, z complex128, trip int) {
	m.place[node], m.known[node] = z, true
	m.own = movedTo(m.own, z, trip)
}

func (m *model) forget(node int) {
	if m.knows(node) {
		m.place[node], m.known[node] = 0, false
	}
}

// ahead: does a stand ahead of b, in Near?
func (m *model) ahead(a, b int) bool {
	if m.knows(a) != m.knows(b) {
		return m.knows(a)
	}
	if m.knows(a) {
		_, _, x := squareOf(m.own, m.place[a])
		_, _, y := squareOf(m.own, m.place[b])
		if x != y {
			return x < y
		}
	}
	return a < b
}

// near puts each number ahead of all that it stands ahead of.
func (m *model) near(l []int) []int {
	var out []int
	for _, n := range l {
		i := 0
		for i < len(out) && !m.ahead(n, out[i]) {
			i++
		}
		out = slices.Insert(out, i, n)
	}
	return out
}

// hold: a chart is as its model says.
func (m *model) hold(t *testing.T, what string, c *chart.Chart) {
	t.Helper()
	wantOwn(t, what, c, m.own)
	for n := 1; n <= api.MaxNode; n++ {
		if m.knows(n) {
			wantKnown(t, what, c, n, m.place[n])
		} else {
			wantUnknown(t, what, c, n)
		}
	}
	for _, n := range noNodes {
		wantUnknown(t, what, c, n)
	}
}

// one act, of the chart and of the model.
func (k maker) act(t *testing.T, c *chart.Chart, m *model) {
	t.Helper()
	node := k.node()
	switch k.Intn(12) {
	case 0, 1:
		c.Forget(node)
		m.forget(node)
	case 2:
		wantRefused(t, "P13.1", c, noNodes[k.Intn(len(noNodes))], k.place(), k.trip(), api.ErrChartNode)
	case 3:
		wantRefused(t, "P13.1", c, node, k.place(), noTrips[k.Intn(len(noTrips))], api.ErrArg)
	case 4:
		l := k.list()
		wantNear(t, "P13.2", c, l, m.near(l)...)
	case 5:
		z := m.own
		hear(t, c, node, z, k.trip())
		m.hear(node, z, 0)
	default:
		z, trip := k.place(), k.trip()
		hear(t, c, node, z, trip)
		m.hear(node, z, trip)
	}
}

func TestP13_1ByTheWords(t *testing.T) {
	for seed := range int64(300) {
		k := newMaker(seed)
		own := k.place()
		c, m := newChart(t, own), &model{own: own}
		for range 60 {
			k.act(t, c, m)
		}
		m.hold(t, "P13.1", c)
		if t.Failed() {
			t.Fatalf("the script of seed %d", seed)
		}
	}
}

// Each sum, difference, product and quotient is rounded by itself.
func TestP13_1ToTheLastBit(t *testing.T) {
	k := newMaker(1)
	for range 20000 {
		own, z, trip := k.place(), k.place(), k.trip()
		c := newChart(t, own)
		hear(t, c, 1, z, trip)
		wantOwn(t, "P13.1: a move", c, movedTo(own, z, trip))
		if t.Failed() {
			t.Fatalf("own %v, place %v, trip %d", own, z, trip)
		}
	}
}

// From the places on that it has drawn near to, again and again.
func TestP13_1ALongWay(t *testing.T) {
	k := newMaker(2)
	c, m := newChart(t, 0), &model{}
	for i := range 3000 {
		node, trip := 1+i%3, k.Intn(40)
		z := complex(k.NormFloat64()*20, k.NormFloat64()*20)
		hear(t, c, node, z, trip)
		m.hear(node, z, trip)
	}
	m.hold(t, "P13.1: 3000 moves", c)
}

func TestP13_2ByTheWords(t *testing.T) {
	for seed := range int64(400) {
		k := newMaker(seed + 1000)
		own := k.place()
		c, m := newChart(t, own), &model{own: own}
		for range k.Intn(40) {
			node, z, trip := k.node(), k.place(), k.trip()
			hear(t, c, node, z, trip)
			m.hear(node, z, trip)
		}
		for range 3 {
			l := k.list()
			wantNear(t, "P13.2", c, l, m.near(l)...)
		}
		wantNear(t, "P13.2: all", c, allNodes(), m.near(allNodes())...)
	}
}
