package chart_test

import (
	"slices"
	"testing"

	"rookery/api"
	"rookery/chart"
)

// told: what a chart hears.
type told struct {
	node int
	z    complex128
	trip int
}

// at: a chart at 0 that does not move by what it hears: each trip is one whose
// square is s, or s is 0 or infinite.
func at(t *testing.T, heard ...told) *chart.Chart {
	t.Helper()
	c := newChart(t, 0)
	for _, x := range heard {
		hear(t, c, x.node, x.z, x.trip)
		wantOwn(t, "P13.3: a trip whose square is s", c, 0)
	}
	return c
}

func TestP13_2NearEmpty(t *testing.T) {
	for _, c := range []*chart.Chart{newChart(t, 0), some(t)} {
		wantNear(t, "P13.2: of none", c, nil)
		wantNear(t, "P13.2: of none", c, []int{})
		wantNear(t, "P13.2: of none", c, make([]int, 0, 8))
	}
}

// The least s first, whatever the order of the numbers and of hearing.
func TestP13_2NearByDistance(t *testing.T) {
	c := at(t, told{1, 3, 3}, told{2, complex(0, -1), 1}, told{3, complex(-6, 8), 10}, told{4, complex(-2, 0), 2},
		told{64, 3 + 4i, 5}, told{63, complex(8, -15), 17})
	want := []int{2, 4, 1, 64, 3, 63}
	l := slices.Sorted(slices.Values(want))
	wantNear(t, "P13.2: the nearest first", c, l, want...)
	slices.Reverse(l)
	wantNear(t, "P13.2: the nearest first", c, l, want...)
	wantNear(t, "P13.2: the nearest first", c, want, want...)
	wantNear(t, "P13.2: a piece of them", c, []int{3, 4, 64}, 4, 64, 3)
	for _, n := range want {
		wantNear(t, "P13.2: of one", c, []int{n}, n)
	}
}

// s counts, not the greater part nor the sum of both.
func TestP13_2NearBySquare(t *testing.T) {
	c := at(t, told{1, 5, 5}, told{2, complex(12, -5), 13}, told{3, complex(-3, 4), 5}, told{4, 14, 14})
	wantNear(t, "P13.2: by s", c, []int{1, 2, 3, 4}, 1, 3, 2, 4)
	hear(t, c, 5, complex(9, 9), 12)
	hear(t, c, 6, complex(-10.5, 10.5), 15)
	wantNear(t, "P13.2: by s", c, []int{6, 5, 4, 3, 2, 1}, 1, 3, 5, 2, 4, 6)
}

// From where own stands now, not from where it stood when a node was heard of.
func TestP13_2NearFromOwn(t *testing.T) {
	c := newChart(t, 0)
	hear(t, c, 1, 3, 3)
	hear(t, c, 2, -3.015625, 0)
	wantNear(t, "P13.2: own has drawn nearer to 2", c, []int{1, 2}, 2, 1)
	hear(t, c, 3, 1000, 0)
	wantNear(t, "P13.2: own has drawn nearer to 1", c, []int{3, 2, 1}, 1, 2, 3)
}

func TestP13_2NearTimes(t *testing.T) {
	c := at(t, told{5, 3, 3}, told{9, 1, 1})
	wantNear(t, "P13.2: as often as it stands there", c, []int{5, 9, 5, 9, 5}, 9, 9, 5, 5, 5)
	wantNear(t, "P13.2: as often as it stands there", c, []int{7, 5, 7, 9, 6, 7, 5}, 9, 5, 5, 6, 7, 7, 7)
	wantNear(t, "P13.2: as often as it stands there", c, slices.Repeat([]int{6, 5}, 100),
		append(slices.Repeat([]int{5}, 100), slices.Repeat([]int{6}, 100)...)...)
	wantNear(t, "P13.2: as often as it stands there", newChart(t, 0), []int{2, 2, 1, 2}, 1, 2, 2, 2)
}

// Numbers that are not known, those that are no nodes among them, stand behind,
// by their numbers.
func TestP13_2NearUnknown(t *testing.T) {
	c := at(t, told{60, 3, 3}, told{30, 1, 1})
	wantNear(t, "P13.2: known ones first", c, []int{64, 60, 1, 30, 31}, 30, 60, 1, 31, 64)
	wantNear(t, "P13.2: numbers that are no nodes", c, []int{0, 60, -1, 65, 30, 1, 64},
		30, 60, -1, 0, 1, 64, 65)
	wantNear(t, "P13.2: numbers that are no nodes", c, []int{mostInt, leastInt, 60, 1 << 32, -1 << 32, leastInt + 1, mostInt - 1, 30, 30 + 1<<32, 0},
		30, 60, leastInt, leastInt+1, -1<<32, 0, 1<<32, 30+1<<32, mostInt-1, mostInt)
	wantNear(t, "P13.2: none is known", newChart(t, 0), []int{5, mostInt, 4, leastInt, 0, 64},
		leastInt, 0, 4, 5, 64, mostInt)
	c.Forget(30)
	wantNear(t, "P13.2: one that was forgotten", c, []int{30, 60, 29}, 60, 29, 30)
	wantNear(t, "P13.2: all", c, slices.Concat(allNodes(), noNodes), (&model{
		place: [api.MaxNode + 1]complex128{60: 3}, known: [api.MaxNode + 1]bool{60: true},
	}).near(slices.Concat(allNodes(), noNodes))...)
}

// Of two whose s is one the lesser number ahead: at one place, at unlike ones,
// and where s is 0 though the places are two.
func TestP13_2NearAlike(t *testing.T) {
	c := at(t, told{9, 3 + 4i, 5}, told{4, complex(-3, 4), 5}, told{6, complex(4, -3), 5}, told{5, 5, 5}, told{7, 5, 5},
		told{8, complex(0, -5), 5}, told{3, 13i, 13}, told{2, complex(-5, 12), 13}, told{20, 1, 1})
	wantNear(t, "P13.2: s is one", c, []int{9, 8, 7, 6, 5, 4, 3, 2, 20}, 20, 4, 5, 6, 7, 8, 9, 2, 3)
	wantNear(t, "P13.2: s is one", c, []int{9, 4}, 4, 9)
	wantNear(t, "P13.2: s is one", c, []int{4, 9}, 4, 9)
	c = at(t, told{3, complex(1e-170, 0), 1}, told{2, complex(0, 1e-165), 1}, told{1, complex(1e-163, 1e-163), 1}, told{4, 0, 1})
	wantNear(t, "P13.2: s is 0", c, []int{4, 3, 2, 1}, 1, 2, 3, 4)
}

// An s that is infinite stands behind all that are finite, ahead of what is not
// known; of two such ones the lesser number ahead, however far they are.
func TestP13_2NearInfinite(t *testing.T) {
	c := at(t, told{2, 1e300, 1}, told{1, complex(0, 1e301), 1}, told{3, complex(-1e200, 1e200), 1}, told{4, complex(most, -most), 1},
		told{50, 1, 1}, told{60, 1 << 20, 1 << 20})
	wantNear(t, "P13.2: s is infinite", c, []int{4, 3, 2, 1, 60, 50, 49, 0}, 50, 60, 1, 2, 3, 4, 0, 49)
	hear(t, c, 61, complex(1e154, 0), 1)
	wantNear(t, "P13.2: s is infinite", c, []int{5, 1, 61, 2, -1, 50}, 50, 61, 1, 2, -1, 5)
	c = newChart(t, complex(most, 0))
	hear(t, c, 9, complex(-most, 0), 1)
	hear(t, c, 8, 0, 1)
	hear(t, c, 63, complex(most, 7), 7)
	wantNear(t, "P13.2: a difference is infinite", c, []int{7, 9, 8, 63}, 63, 8, 9, 7)
}

// s is rounded: two that are not one may have one s, and stand by their numbers.
func TestP13_2NearRounded(t *testing.T) {
	c := newChart(t, 0)
	hear(t, c, 2, complex(1<<20, 0), 1<<20)
	hear(t, c, 1, complex(1<<20, 1e-8), 1<<20)
	wantOwn(t, "P13.3: a trip whose square is s", c, 0)
	wantNear(t, "P13.2: s rounded is one", c, []int{2, 1}, 1, 2)
	hear(t, c, 1, complex(1<<20, 0.5), 1<<20)
	wantNear(t, "P13.2: s is not one", c, []int{1, 2}, 2, 1)
}

// Long lists, of all nodes mixed.
func TestP13_2NearLong(t *testing.T) {
	k := newMaker(77)
	own := k.place()
	c, m := newChart(t, own), &model{own: own}
	for range 40 {
		node, z, trip := k.node(), complex(float64(k.Intn(5)), float64(k.Intn(5))), k.Intn(6)
		hear(t, c, node, z, trip)
		m.hear(node, z, trip)
	}
	var l []int
	for range 1000 {
		l = append(l, k.Intn(70)-2)
	}
	count := map[int]int{}
	for _, n := range l {
		count[n]++
	}
	var want []int
	for _, n := range m.near(slices.Compact(slices.Sorted(slices.Values(l)))) {
		want = append(want, slices.Repeat([]int{n}, count[n])...)
	}
	wantNear(t, "P13.2: a long list", c, l, want...)
}
