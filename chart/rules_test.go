package chart_test

import (
	"math"
	"slices"
	"testing"

	"rookery/api"
	"rookery/chart"
)

// Of several errors the one that is named first.
func TestR1TheFirstError(t *testing.T) {
	for _, z := range noPlaces() {
		wantRefused(t, "R1: all three", some(t), 0, z, -1, api.ErrChartNode)
		wantRefused(t, "R1: node and place", some(t), 65, z, 1, api.ErrChartNode)
		wantRefused(t, "R1: place and trip", some(t), 64, z, mostTrip+1, api.ErrChartPlace)
		wantRefused(t, "R1: place and trip", some(t), 1, z, -1, api.ErrChartPlace)
		var none *chart.Chart
		for _, e := range []api.Errno{none.Hear(0, z, -1), none.Hear(1, z, 1), none.Hear(65, 0, 1), none.Hear(1, 0, -1)} {
			if e != api.ErrNil {
				t.Errorf("R1: of a nil one: %d", e)
			}
		}
	}
	for _, n := range noNodes {
		wantRefused(t, "R1: node and trip", some(t), n, 1, -1, api.ErrChartNode)
	}
}

// What is refused changes nothing that could be told later, wherever a chart
// stands.
func TestR2NothingChanged(t *testing.T) {
	bad := noPlaces()
	for seed := range int64(60) {
		k := newMaker(seed + 9000)
		own := k.place()
		plain, vexed := newChart(t, own), newChart(t, own)
		for range 40 {
			node, z, trip := k.node(), k.place(), k.trip()
			wantRefused(t, "R2", vexed, noNodes[k.Intn(len(noNodes))], z, trip, api.ErrChartNode)
			wantRefused(t, "R2", vexed, node, bad[k.Intn(len(bad))], trip, api.ErrChartPlace)
			wantRefused(t, "R2", vexed, node, z, noTrips[k.Intn(len(noTrips))], api.ErrArg)
			hear(t, plain, node, z, trip)
			hear(t, vexed, node, z, trip)
		}
		wantWhole(t, "R2: beside one to which nothing wrong was told", vexed, wholeOf(plain))
	}
}

// A nil list and an empty one are the same.
func TestR3Lists(t *testing.T) {
	for _, c := range []*chart.Chart{newChart(t, 0), some(t), nil} {
		for _, l := range [][]int{nil, {}, make([]int, 0, 5), roomy(nil)} {
			if got := c.Near(l); len(got) != 0 {
				t.Errorf("R3: Near of none: %v", got)
			}
		}
	}
}

// roomy: l anew, with spare room in which something stands.
func roomy(l []int) []int {
	room := append(append(make([]int, 0, len(l)+8), l...), 8, 7, 6, 5, 4, 3, 2, 1)
	return room[:len(l)]
}

// scramble writes into all memory of l, its spare room included.
func scramble(l []int) {
	room := l[:cap(l)]
	for i := range room {
		room[i] = -99 - i
	}
}

func TestR4Memory(t *testing.T) {
	c := some(t)
	for _, l := range [][]int{{64, 2, 1, 5, 2}, {1}, {}, {2, 1}, {9, 8, 7, 6, 5, 4, 3, 2, 1, 0, -1, 64}} {
		in := roomy(l)
		was := slices.Clone(in[:cap(in)])
		want := c.Near(slices.Clone(l))
		kept := slices.Clone(want)
		got := c.Near(in)
		if !slices.Equal(in[:cap(in)], was) {
			t.Errorf("R4: Near has changed %v to %v", was, in[:cap(in)])
		}
		scramble(in)
		if !slices.Equal(got, kept) {
			t.Errorf("R4: what Near answered shares memory with the list: %v", got)
		}
		scramble(got)
		if !slices.Equal(want, kept) {
			t.Errorf("R4: two answers share memory: %v", want)
		}
		if got := c.Near(l); !slices.Equal(got, kept) {
			t.Errorf("R4: a chart has kept what it answered: %v", got)
		}
		in = roomy(l)
		got = c.Near(in)
		scramble(got)
		if !slices.Equal(in[:cap(in)], was) {
			t.Errorf("R4: the list shares memory with what Near answered: %v", in[:cap(in)])
		}
	}
}

// Each call of a nil chart.
func TestR5Nil(t *testing.T) {
	var c *chart.Chart
	if e := c.Hear(1, 1, 1); e != api.ErrNil {
		t.Errorf("P13.1: Hear of a nil one: %d", e)
	}
	for _, n := range allNodes() {
		c.Forget(n)
		wantUnknown(t, "P13.2: Of of a nil one", c, n)
	}
	wantOwn(t, "P13.2: Own of a nil one", c, 0)
	for _, l := range [][]int{nil, {}, {1}, {2, 1, 0}, allNodes()} {
		wantNear(t, "P13.2: Near of a nil one", c, l)
	}
}

// Charts know nothing of each other, not even those that began alike.
func TestR6OtherCharts(t *testing.T) {
	a, b := newChart(t, 1), newChart(t, 1)
	was := wholeOf(b)
	hear(t, a, 1, 7i, 0)
	hear(t, a, 2, 9, 0)
	wantWhole(t, "R6: another one heard something", b, was)
	hear(t, b, 1, 5, 0)
	hear(t, b, 3, 6, 0)
	was = wholeOf(b)
	a.Forget(1)
	a.Forget(3)
	hear(t, a, 3, 8, 0)
	wantWhole(t, "R6: another one forgot something", b, was)
}

// What is asked changes nothing, and is the same each time: Near does not hang
// on the order of a map.
func TestR6Asking(t *testing.T) {
	k := newMaker(31)
	c := newChart(t, 0)
	for range 50 {
		hear(t, c, k.node(), complex(float64(k.Intn(4)), float64(k.Intn(4))), 0)
	}
	was := wholeOf(c)
	for range 50 {
		wantWhole(t, "R6: asked again", c, was)
	}
	l := allNodes()
	for range 50 {
		k.Shuffle(len(l), func(i, j int) { l[i], l[j] = l[j], l[i] })
		wantNear(t, "R6: the same numbers in another order", c, l, was.near...)
	}
}

// The way by which something came to be known does not count: charts with one
// own place and the same nodes answer the same.
func TestR6TheSameKnown(t *testing.T) {
	a, b := newChart(t, 0), newChart(t, 0)
	for _, x := range []told{{1, 3, 3}, {2, 3 + 4i, 5}, {3, 5i, 5}} {
		hear(t, a, x.node, x.z, x.trip)
	}
	for _, x := range []told{{3, 1, 1}, {9, 2, 2}, {3, 5i, 5}, {2, 3 + 4i, 5}, {1, 3, 3}} {
		hear(t, b, x.node, x.z, x.trip)
	}
	b.Forget(9)
	wantWhole(t, "R6: the same is known", b, wholeOf(a))
}

// anything: of any bits.
func (m maker) anything() complex128 {
	l := append(noPlaces(), places()...)
	switch m.Intn(3) {
	case 0:
		return l[m.Intn(len(l))]
	case 1:
		return complex(math.Float64frombits(m.Uint64()), math.Float64frombits(m.Uint64()))
	}
	return m.place()
}

func (m maker) number() int {
	if m.Intn(2) == 0 {
		return m.Intn(70) - 3
	}
	return int(m.Uint64())
}

func TestP1Anything(t *testing.T) {
	for seed := range int64(300) {
		k := newMaker(seed + 70000)
		c, e := chart.New(k.anything())
		if (c == nil) != (e != api.OK) {
			t.Errorf("P1: New: %p, %d", c, e)
		}
		for range 60 {
			c.Hear(k.number(), k.anything(), k.number())
			c.Hear(k.node(), k.anything(), k.trip())
			c.Forget(k.number())
			c.Of(k.number())
			c.Near([]int{k.number(), k.number(), k.number()})
			if o := c.Own(); !isPlace(o) {
				t.Fatalf("P13.1: own is %v, which is no place", o)
			}
		}
	}
}

// isPlace: by the chapter's words.
func isPlace(z complex128) bool {
	for _, x := range []float64{real(z), imag(z)} {
		if !finite(x) || x == 0 && math.Signbit(x) {
			return false
		}
	}
	return true
}
