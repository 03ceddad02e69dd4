package chart_test

import (
	"math"
	"math/rand"
	"slices"
	"testing"

	"rookery/api"
	"rookery/chart"
)

const (
	most     = math.MaxFloat64
	leastOne = 2.2250738585072014e-308 // the least normal part above 0
	tiny     = math.SmallestNonzeroFloat64
	mostTrip = 1 << 20
	mostInt  = 1<<63 - 1
	leastInt = -1 << 63
)

var minusZero = math.Copysign(0, -1)

// noNodes: numbers that are none.
var noNodes = []int{leastInt, -1 << 32, -65, -64, -2, -1, 0, 65, 66, 128, 1 << 32, 1<<32 + 1, 1<<32 + 2, mostInt}

// noTrips: numbers that are none.
var noTrips = []int{leastInt, -1 << 32, -mostTrip, -1, mostTrip + 1, 1 << 32, 1<<32 + 5, mostInt}

// places: such as stand at an edge, each edge as the real part and as the
// imaginary one.
func places() []complex128 {
	parts := []float64{0, 1, -1, 0.1, 1e100, -1e100, most, -most, math.Nextafter(most, 0), leastOne, -leastOne,
		math.Nextafter(leastOne, 0), -math.Nextafter(leastOne, 0), tiny, -tiny}
	var out []complex128
	for _, p := range parts {
		for _, q := range []float64{0, 2.5, p} {
			out = append(out, complex(p, q), complex(q, p))
		}
	}
	return out
}

// noPlaces: each has one part that no place has, or two.
func noPlaces() []complex128 {
	bad := []float64{minusZero, math.NaN(), math.Float64frombits(0xfff8000000000001), math.Inf(1), math.Inf(-1)}
	var out []complex128
	for _, p := range bad {
		for _, q := range []float64{0, 1, -most, tiny, p} {
			out = append(out, complex(p, q), complex(q, p))
		}
	}
	return out
}

// sameBits tells -0 and 0 apart.
func sameBits(a, b complex128) bool {
	return math.Float64bits(real(a)) == math.Float64bits(real(b)) && math.Float64bits(imag(a)) == math.Float64bits(imag(b))
}

func newChart(t *testing.T, own complex128) *chart.Chart {
	t.Helper()
	c, e := chart.New(own)
	if e != api.OK || c == nil {
		t.Fatalf("P13.1: New(%v): %p, %d", own, c, e)
	}
	return c
}

// hear: nothing is refused.
func hear(t *testing.T, c *chart.Chart, node int, z complex128, trip int) {
	t.Helper()
	if e := c.Hear(node, z, trip); e != api.OK {
		t.Errorf("P13.1: Hear(%d, %v, %d): %d", node, z, trip, e)
	}
}

func wantOwn(t *testing.T, what string, c *chart.Chart, want complex128) {
	t.Helper()
	if got := c.Own(); !sameBits(got, want) {
		t.Errorf("%s: own is %v, not %v", what, got, want)
	}
}

func wantKnown(t *testing.T, what string, c *chart.Chart, node int, want complex128) {
	t.Helper()
	if z, ok := c.Of(node); !ok || !sameBits(z, want) {
		t.Errorf("%s: of %d: %v, %t, not %v", what, node, z, ok, want)
	}
}

func wantUnknown(t *testing.T, what string, c *chart.Chart, node int) {
	t.Helper()
	if z, ok := c.Of(node); ok || !sameBits(z, 0) {
		t.Errorf("%s: of %d: %v, %t, though it is not known", what, node, z, ok)
	}
}

func wantNear(t *testing.T, what string, c *chart.Chart, l []int, want ...int) {
	t.Helper()
	if got := c.Near(l); !slices.Equal(got, want) {
		t.Errorf("%s: Near of %v: %v, not %v", what, l, got, want)
	}
}

// allNodes: and some numbers that are none.
func allNodes() []int {
	out := slices.Clone(noNodes)
	for n := 1; n <= api.MaxNode; n++ {
		out = append(out, n)
	}
	return out
}

// fact: what is known of a node.
type fact struct {
	p, q  uint64
	known bool
}

// whole: all that can be told of a chart, so that two can be held against each
// other.
type whole struct {
	own  fact
	of   []fact
	near []int
}

func factOf(z complex128, known bool) fact {
	return fact{math.Float64bits(real(z)), math.Float64bits(imag(z)), known}
}

func wholeOf(c *chart.Chart) whole {
	w := whole{own: factOf(c.Own(), true), near: c.Near(allNodes())}
	for _, n := range allNodes() {
		w.of = append(w.of, factOf(c.Of(n)))
	}
	return w
}

func wantWhole(t *testing.T, what string, c *chart.Chart, want whole) {
	t.Helper()
	got := wholeOf(c)
	if got.own != want.own {
		t.Errorf("%s: own is %v", what, c.Own())
	}
	if !slices.Equal(got.of, want.of) {
		t.Errorf("%s: what is known is another", what)
	}
	if !slices.Equal(got.near, want.near) {
		t.Errorf("%s: Near is another: %v, not %v", what, got.near, want.near)
	}
}

// wantRefused: it is refused, and nothing of it can be told.
func wantRefused(t *testing.T, what string, c *chart.Chart, node int, z complex128, trip int, want api.Errno) {
	t.Helper()
	was := wholeOf(c)
	if e := c.Hear(node, z, trip); e != want {
		t.Errorf("%s: Hear(%d, %v, %d): %d, not %d", what, node, z, trip, e, want)
	}
	wantWhole(t, what, c, was)
}

// maker makes places, trips and lists, the same ones for the same seed.
type maker struct{ *rand.Rand }

func newMaker(seed int64) maker { return maker{rand.New(rand.NewSource(seed))} }

// part: mostly one of a size at which trips and squares weigh alike.
func (m maker) part() float64 {
	switch m.Intn(12) {
	case 0:
		return 0
	case 1:
		return float64(m.Intn(21) - 10)
	case 2:
		return m.anyPart()
	case 3:
		return m.edgePart()
	case 4, 5:
		return m.NormFloat64() * 1e6
	}
	return m.NormFloat64() * math.Ldexp(1, m.Intn(12)-2)
}

// anyPart: of any bits that a place may have.
func (m maker) anyPart() float64 {
	for range 100 {
		x := math.Float64frombits(m.Uint64())
		if x-x == 0 && x != 0 {
			return x
		}
	}
	return 1
}

func (m maker) edgePart() float64 {
	l := []float64{most, -most, 1e154, -1.3e154, 1.4e154, leastOne, -tiny, 1e-162, -1.5e-162, 1e-160, 1e-200}
	return l[m.Intn(len(l))]
}

func (m maker) place() complex128 { return complex(m.part(), m.part()) }

func (m maker) trip() int {
	switch m.Intn(6) {
	case 0:
		return 0
	case 1:
		return mostTrip
	case 2:
		return m.Intn(mostTrip + 1)
	}
	return m.Intn(2000)
}

func (m maker) node() int { return 1 + m.Intn(api.MaxNode) }

// list: nodes, and a few numbers that are none, some of them several times.
func (m maker) list() []int {
	out := make([]int, m.Intn(30))
	for i := range out {
		out[i] = m.node()
		if m.Intn(8) == 0 {
			out[i] = noNodes[m.Intn(len(noNodes))]
		}
		if i > 0 && m.Intn(5) == 0 {
			out[i] = out[m.Intn(i)]
		}
	}
	return out
}
