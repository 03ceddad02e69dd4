package chart_test

import (
	"slices"
	"testing"

	"rookery/api"
	"rookery/chart"
	"rookery/num"
)

// turn: z times the number with the parts 0 and 1, as layer 1 multiplies.
func turn(t *testing.T, z complex128) complex128 {
	t.Helper()
	x, e := num.Do(api.Mul, api.Term{Kind: api.KCx, Z: z}, api.Term{Kind: api.KCx, Z: 1i})
	if e != api.OK {
		t.Fatalf("P13.3: %v times (0, 1): %d", z, e)
	}
	return x.Z
}

// conj: as layer 1 has it.
func conj(t *testing.T, z complex128) complex128 {
	t.Helper()
	x, e := num.One(api.Conj, api.Term{Kind: api.KCx, Z: z})
	if e != api.OK {
		t.Fatalf("P13.3: Conj of %v: %d", z, e)
	}
	return x.Z
}

// both: a chart, and one that hears all places changed.
type both struct {
	t           *testing.T
	name        string
	plain, made *chart.Chart
	change      func(*testing.T, complex128) complex128
}

func newBoth(t *testing.T, name string, own complex128, change func(*testing.T, complex128) complex128) *both {
	t.Helper()
	return &both{t, name, newChart(t, own), newChart(t, change(t, own)), change}
}

func (b *both) hear(node int, z complex128, trip int) {
	b.t.Helper()
	hear(b.t, b.plain, node, z, trip)
	hear(b.t, b.made, node, b.change(b.t, z), trip)
}

func (b *both) forget(node int) {
	b.plain.Forget(node)
	b.made.Forget(node)
}

// hold: the places are those of the other chart, changed; Near is the same.
func (b *both) hold(l []int) {
	b.t.Helper()
	wantOwn(b.t, b.name, b.made, b.change(b.t, b.plain.Own()))
	for _, n := range allNodes() {
		if z, ok := b.plain.Of(n); ok {
			wantKnown(b.t, b.name, b.made, n, b.change(b.t, z))
		} else {
			wantUnknown(b.t, b.name, b.made, n)
		}
	}
	if x, y := b.plain.Near(l), b.made.Near(l); !slices.Equal(x, y) {
		b.t.Errorf("%s: Near of %v: %v and %v", b.name, l, x, y)
	}
}

func turnedAll(t *testing.T, own complex128) []*both {
	t.Helper()
	turns := func(n int) func(*testing.T, complex128) complex128 {
		return func(t *testing.T, z complex128) complex128 {
			for range n {
				z = turn(t, z)
			}
			return z
		}
	}
	return []*both{
		newBoth(t, "P13.3: times (0, 1)", own, turns(1)),
		newBoth(t, "P13.3: twice times (0, 1)", own, turns(2)),
		newBoth(t, "P13.3: thrice times (0, 1)", own, turns(3)),
		newBoth(t, "P13.3: in Conj", own, conj),
		newBoth(t, "P13.3: in Conj, times (0, 1)", own, func(t *testing.T, z complex128) complex128 { return turn(t, conj(t, z)) }),
	}
}

func TestP13_3Turned(t *testing.T) {
	for seed := range int64(150) {
		k := newMaker(seed + 5000)
		l := turnedAll(t, k.place())
		for range 40 {
			node, z, trip := k.node(), k.place(), k.trip()
			list := k.list()
			gone := k.Intn(6) == 0
			for _, b := range l {
				b.hear(node, z, trip)
				if gone {
					b.forget(node)
				}
				b.hold(list)
			}
		}
		if t.Failed() {
			t.Fatalf("the script of seed %d", seed)
		}
	}
}

func TestP13_3TurnedEdges(t *testing.T) {
	for _, own := range places() {
		for _, b := range turnedAll(t, own) {
			for i, z := range places() {
				b.hear(1+i%64, z, i)
				b.hear(1+(i+7)%64, b.plain.Own(), i)
			}
			b.hold(allNodes())
		}
	}
}

// Places and trips whose square is s: nothing moves.
func TestP13_3TripIsDistance(t *testing.T) {
	for _, d := range [][3]int{{3, 4, 5}, {5, 12, 13}, {8, 15, 17}, {0, 7, 7}, {20, 21, 29}, {0, mostTrip, mostTrip},
		{0, 1, 1}, {119, 120, 169}, {696, 697, 985}, {629088, 838784, 1048480}} {
		if d[0]*d[0]+d[1]*d[1] != d[2]*d[2] {
			t.Fatalf("%v is no such triangle", d)
		}
		p, q := float64(d[0]), float64(d[1])
		for _, own := range []complex128{0, 1, complex(-17, 4), complex(0, 0.5), complex(1<<20, -1<<20), complex(0.25, -0.75)} {
			for _, z := range []complex128{complex(p, q), complex(-p, q), complex(p, -q), complex(-p, -q), complex(q, p), complex(-q, p)} {
				c := newChart(t, own)
				hear(t, c, 1, clean(own+z), d[2])
				wantOwn(t, "P13.3: a trip whose square is s", c, own)
				wantKnown(t, "P13.3: a trip whose square is s", c, 1, clean(own+z))
			}
		}
	}
}

// clean: -0 is made 0.
func clean(z complex128) complex128 { return complex(real(z)+0, imag(z)+0) }

// One less moves to it, one more away from it.
func TestP13_1LessAndMore(t *testing.T) {
	for _, z := range []complex128{5, complex(0, -5), 3 + 4i, complex(-3, 4)} {
		for _, x := range []struct{ trip, sign int }{{4, 1}, {0, 1}, {5, 0}, {6, -1}, {mostTrip, -1}} {
			c := newChart(t, 0)
			hear(t, c, 1, z, x.trip)
			o := c.Own()
			dot := real(o)*real(z) + imag(o)*imag(z)
			if x.sign == 0 && dot != 0 || x.sign > 0 && dot <= 0 || x.sign < 0 && dot >= 0 {
				t.Errorf("P13.1: place %v, trip %d: own is %v", z, x.trip, o)
			}
		}
	}
}

// What round trips tell is where own ends: it draws nearer, until all trips are
// as long as the ways.
func TestP13_1DrawsNear(t *testing.T) {
	c := newChart(t, complex(100, 40))
	for range 20000 {
		hear(t, c, 1, 0, 5)
		hear(t, c, 2, 6, 5)
		hear(t, c, 3, complex(3, 12), 8)
	}
	d := c.Own() - complex(3, 4)
	if real(d)*real(d)+imag(d)*imag(d) > 1e-12 {
		t.Errorf("P13.1: own is %v, not near (3, 4)", c.Own())
	}
	wantNear(t, "P13.2", c, []int{3, 4}, 3, 4)
}
