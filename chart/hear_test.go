package chart_test

import (
	"math"
	"testing"

	"rookery/api"
	"rookery/chart"
)

func TestP13_1New(t *testing.T) {
	for _, z := range places() {
		c := newChart(t, z)
		wantOwn(t, "P13.1: New", c, z)
		for _, n := range allNodes() {
			wantUnknown(t, "P13.1: New", c, n)
		}
	}
	for _, z := range noPlaces() {
		if c, e := chart.New(z); c != nil || e != api.ErrChartPlace {
			t.Errorf("P13.1: New(%v): %p, %d", z, c, e)
		}
	}
}

// some: a chart that knows of three nodes, and whose own place is at an odd one.
func some(t *testing.T) *chart.Chart {
	t.Helper()
	c := newChart(t, complex(0.5, -7))
	hear(t, c, 1, 3+4i, 9)
	hear(t, c, 2, complex(-80, 0.125), 11)
	hear(t, c, 64, complex(1e9, 1e9), mostTrip)
	return c
}

func TestP13_1HearNode(t *testing.T) {
	for n := 1; n <= api.MaxNode; n++ {
		c := newChart(t, 0)
		hear(t, c, n, 3+4i, 5)
		for _, other := range allNodes() {
			if other == n {
				wantKnown(t, "P13.1: Hear", c, other, 3+4i)
			} else {
				wantUnknown(t, "P13.1: Hear", c, other)
			}
		}
	}
	for _, n := range noNodes {
		wantRefused(t, "P13.1: no node", some(t), n, 3+4i, 1, api.ErrChartNode)
		wantRefused(t, "P13.1: no node", newChart(t, 1), n, 3+4i, 1, api.ErrChartNode)
	}
}

func TestP13_1HearPlace(t *testing.T) {
	for _, z := range places() {
		c := newChart(t, complex(0.5, -7))
		hear(t, c, 5, z, 3)
		wantKnown(t, "P13.1: Hear", c, 5, z)
		wantOwn(t, "P13.1: Hear", c, movedTo(complex(0.5, -7), z, 3))
	}
	for _, z := range noPlaces() {
		wantRefused(t, "P13.1: no place, of a node that is known", some(t), 1, z, 1, api.ErrChartPlace)
		wantRefused(t, "P13.1: no place, of one that is not", some(t), 3, z, 1, api.ErrChartPlace)
	}
}

func TestP13_1HearTrip(t *testing.T) {
	for _, trip := range []int{0, 1, 2, 5, 1 << 10, 1 << 16, 1<<16 + 1, mostTrip - 1, mostTrip} {
		c := newChart(t, complex(0.5, -7))
		hear(t, c, 5, 3+4i, trip)
		wantKnown(t, "P13.1: Hear", c, 5, 3+4i)
		wantOwn(t, "P13.1: Hear", c, movedTo(complex(0.5, -7), 3+4i, trip))
	}
	for _, trip := range noTrips {
		wantRefused(t, "P13.1: no trip, of a node that is known", some(t), 1, 1, trip, api.ErrArg)
		wantRefused(t, "P13.1: no trip, of one that is not", some(t), 3, 1, trip, api.ErrArg)
	}
}

// What is told of a node last is what is known, and own moves each time.
func TestP13_1HeardAgain(t *testing.T) {
	c := newChart(t, 0)
	want := complex128(0)
	for i, z := range []complex128{3 + 4i, 3 + 4i, complex(-1, 0.5), 0, 100i, 3 + 4i} {
		hear(t, c, 7, z, i)
		want = movedTo(want, z, i)
		wantKnown(t, "P13.1: heard again", c, 7, z)
		wantOwn(t, "P13.1: heard again", c, want)
	}
}

// By hand, with numbers that have few bits.
func TestP13_1Moves(t *testing.T) {
	for _, x := range []struct {
		own, z complex128
		trip   int
		want   complex128
	}{
		{0, 1, 0, complex(1.0/128, 0)},                // s 1, w 0: g is -1/2/64
		{0, -1, 0, complex(-1.0/128, 0)},              //
		{0, 1i, 0, complex(0, 1.0/128)},               //
		{0, complex(0, -1), 0, complex(0, -1.0/128)},  //
		{4, 5, 0, complex(4+1.0/128, 0)},              //
		{0, 1, 2, complex(-3.0/6/64, 0)},              // w 4: g is 3/6/64
		{1, 0, 2, complex(1+3.0/6/64, 0)},             //
		{0, 2 + 1i, 1, complex(2*4.0/7/64, 4.0/7/64)}, // s 5, w 1: g is -4/7/64
		{0, 1, 4, complex(-(15.0 / 18 / 64), 0)},      //
		{0, 4, 1, complex(4*(15.0/18/64), 0)},         //
		{1 + 1i, 1 + 2i, 0, complex(1, 1+1.0/128)},    // p 0: the real part stays
		{1 + 1i, 2 + 1i, 0, complex(1+1.0/128, 1)},    // q 0
		{0, complex(1<<30, 0), 0, complex(1<<24, 0)},  // s + 1 is s: g is -1/64
		{0, 0.5, mostTrip, complex(-0.5*((1<<40-0.25)/(1<<40+0.25+1)/64), 0)},
	} {
		c := newChart(t, x.own)
		hear(t, c, 1, x.z, x.trip)
		wantOwn(t, "P13.1: a move", c, x.want)
	}
}

// Places that are one, or whose s is 0 though they are two: own stays; what was
// heard is known.
func TestP13_1NoDistance(t *testing.T) {
	for _, x := range []struct{ own, z complex128 }{
		{0, 0}, {1, 1}, {3 + 4i, 3 + 4i}, {complex(most, -most), complex(most, -most)},
		{0, complex(tiny, 0)}, {0, complex(0, -tiny)}, {complex(tiny, tiny), complex(-tiny, leastOne)},
		{complex(1e-170, 0), complex(-1e-170, 1e-165)}, {0, complex(1.5e-162, 0)}, {0, complex(1e-162, 1e-162)},
	} {
		for _, trip := range []int{0, 1, mostTrip} {
			c := newChart(t, x.own)
			hear(t, c, 3, x.z, trip)
			wantOwn(t, "P13.1: s is 0", c, x.own)
			wantKnown(t, "P13.1: s is 0", c, 3, x.z)
		}
	}
	for _, x := range places() {
		c := newChart(t, x)
		hear(t, c, 3, x, 4)
		wantOwn(t, "P13.1: its own place", c, x)
		wantKnown(t, "P13.1: its own place", c, 3, x)
	}
}

// The least s that is not 0: it moves, where a part is small enough to show it.
func TestP13_1LeastDistance(t *testing.T) {
	z := complex(0, 1.6e-162)
	c := newChart(t, 0)
	hear(t, c, 3, z, 1)
	if c.Own() == 0 {
		t.Error("P13.1: s is not 0, but own stays")
	}
	wantOwn(t, "P13.1: the least s", c, movedTo(0, z, 1))
}

// s infinite, and a difference that is: own stays; what was heard is known.
func TestP13_1TooFar(t *testing.T) {
	for _, x := range []struct{ own, z complex128 }{
		{0, 1e200}, {0, complex(0, -1e200)}, {1, complex(1.4e154, 0)}, {0, complex(1e154, 1e154)},
		{complex(most, 0), complex(-most, 0)}, {complex(0, most), complex(0, -most)},
		{complex(most, -most), complex(-most, most)}, {complex(most, 5), 0}, {complex(5, -most), 0},
	} {
		for _, trip := range []int{0, 1, mostTrip} {
			c := newChart(t, x.own)
			hear(t, c, 3, x.z, trip)
			wantOwn(t, "P13.1: s is infinite", c, x.own)
			wantKnown(t, "P13.1: s is infinite", c, 3, x.z)
		}
	}
	c := newChart(t, 0)
	hear(t, c, 3, complex(1e154, 0), 1)
	wantOwn(t, "P13.1: s is finite yet", c, movedTo(0, complex(1e154, 0), 1))
	if c.Own() == 0 {
		t.Error("P13.1: s is finite, but own stays")
	}
}

// A new part that is 0 is 0, not -0: own and what it moves by cancel out, or
// both are 0.
func TestP13_1NewPartZero(t *testing.T) {
	const x = 1 << 30
	for _, y := range []struct{ own, z, want complex128 }{
		{x, -63 * x, 0}, {-x, 63 * x, 0},
		{complex(0, x), complex(0, -63*x), 0}, {complex(0, -x), complex(0, 63*x), 0},
		{complex(x, -x), complex(-63*x, 63*x), 0}, {complex(-x, x), complex(63*x, -63*x), 0},
		{complex(0, x), complex(x, x), complex(x/64, x)}, {complex(x, 0), complex(x, -x), complex(x, -x/64)},
		{complex(x, 5), complex(-63*x, 5), complex(0, 5)}, {complex(5, -x), complex(5, 63*x), 5},
	} {
		c := newChart(t, y.own)
		hear(t, c, 9, y.z, 0)
		wantOwn(t, "P13.1: a new part is 0", c, y.want)
		hear(t, c, 10, 1+1i, 1)
		wantOwn(t, "P13.1: and from there on", c, movedTo(y.want, 1+1i, 1))
	}
}

func TestP13_1Forget(t *testing.T) {
	c := some(t)
	own := c.Own()
	c.Forget(2)
	wantUnknown(t, "P13.1: Forget", c, 2)
	wantKnown(t, "P13.1: Forget of another", c, 1, 3+4i)
	wantKnown(t, "P13.1: Forget of another", c, 64, complex(1e9, 1e9))
	wantOwn(t, "P13.1: Forget", c, own)
	wantNear(t, "P13.1: Forget", c, []int{64, 2, 1}, 1, 64, 2)
	was := wholeOf(c)
	for _, n := range append([]int{2, 3, 63}, noNodes...) {
		c.Forget(n)
		wantWhole(t, "P13.1: Forget of what is not known", c, was)
	}
	hear(t, c, 2, 5i, 0)
	wantKnown(t, "P13.1: heard of behind Forget", c, 2, 5i)
	for _, n := range []int{1, 2, 64} {
		c.Forget(n)
	}
	for _, n := range allNodes() {
		wantUnknown(t, "P13.1: Forget of all", c, n)
	}
}

// All nodes at once, each with a place of its own.
func TestP13_1AllNodes(t *testing.T) {
	c, m := newChart(t, 0), &model{}
	for n := api.MaxNode; n >= 1; n-- {
		z := complex(float64(n), -float64(n*n))
		hear(t, c, n, z, n)
		m.hear(n, z, n)
	}
	m.hold(t, "P13.1: all nodes", c)
	for n := 1; n <= api.MaxNode; n += 2 {
		c.Forget(n)
		m.forget(n)
	}
	m.hold(t, "P13.1: Forget of half of them", c)
}

func TestP13_1Examples(t *testing.T) {
	c := newChart(t, 0)
	hear(t, c, 2, 3+4i, 5)
	wantOwn(t, "P13.1: the example", c, 0)
	hear(t, c, 2, 3+4i, 0)
	wantOwn(t, "P13.1: the example", c, complex(3*(25.0/26/64), 4*(25.0/26/64)))
	d := c.Own() - (3 + 4i)
	if math.Hypot(real(d), imag(d)) >= 5 {
		t.Errorf("P13.1: own %v is no nearer to (3, 4)", c.Own())
	}
	wantNear(t, "P13.2: the example", c, []int{3, 2}, 2, 3)
}
