package serial_test

import (
	"slices"
	"testing"

	"rookery/serial"
)

// row: n numbers from base on, each step ahead of the last one.
func row(base uint32, n int, step int64) []uint32 {
	var out []uint32
	for i := range n {
		out = append(out, far(base, int64(i)*step))
	}
	return out
}

func turned(l []uint32) []uint32 {
	out := slices.Clone(l)
	slices.Reverse(out)
	return out
}

func TestP8_1SortOfNoneAndOne(t *testing.T) {
	for _, base := range edges() {
		wantSort(t, "none", base, nil, nil)
		wantSort(t, "none", base, []uint32{}, nil)
		for _, x := range edges() {
			wantSort(t, "one", base, []uint32{x}, []uint32{x})
		}
	}
}

func TestP8_1SortOfTwo(t *testing.T) {
	for _, base := range edges() {
		for _, a := range edges() {
			for _, b := range edges() {
				want := []uint32{a, b}
				if askedAhead(base, b) < askedAhead(base, a) {
					want = []uint32{b, a}
				}
				wantSort(t, "two", base, []uint32{a, b}, want)
			}
		}
	}
}

// What is in order stays so, what is turned round comes into it, whether the
// numbers go over the end or not, and how far they lie from the base.
func TestP8_1SortOfRows(t *testing.T) {
	for _, base := range edges() {
		for _, n := range []int{2, 3, 10, 11, 12, 13, 50, 51, 200} {
			for _, step := range []int64{1, 2, 1000, whole / int64(n)} {
				l := row(base, n, step)
				wantSort(t, "in order", base, l, l)
				wantSort(t, "turned round", base, turned(l), l)
				begun := append(slices.Clone(l[n/2:]), l[:n/2]...)
				wantSort(t, "begun in the middle", base, begun, l)
				wantSort(t, "from its middle", l[n/2], l, begun)
			}
		}
	}
}

// The base itself is the nearest, the number ahead of it the farthest.
func TestP8_1SortAtTheBase(t *testing.T) {
	for _, base := range edges() {
		l := []uint32{far(base, whole-1), far(base, half), far(base, half+1), far(base, half-1), far(base, 1), base}
		want := []uint32{base, far(base, 1), far(base, half-1), far(base, half), far(base, half+1), far(base, whole-1)}
		wantSort(t, "round the base", base, l, want)
	}
	wantSort(t, "from 0", 0, edges(), edges())
	wantSort(t, "from 0", 0, turned(edges()), edges())
}

func TestP8_1SortOfThoseThatAreOne(t *testing.T) {
	wantSort(t, "two are one", 1, []uint32{0, 1, 0}, []uint32{1, 0, 0})
	wantSort(t, "each twice", last, []uint32{0, last, 0, last}, []uint32{last, last, 0, 0})
	wantSort(t, "as often as they are there", 5, []uint32{4, 6, 5, 4, 6, 4}, []uint32{5, 6, 6, 4, 4, 4})
	for _, base := range edges() {
		for _, n := range []int{2, 12, 13, 1000} {
			l := slices.Repeat([]uint32{7}, n)
			wantSort(t, "all are one", base, l, l)
			l = slices.Repeat([]uint32{far(base, whole-1), base}, n)
			want := append(slices.Repeat([]uint32{base}, n), slices.Repeat([]uint32{far(base, whole-1)}, n)...)
			wantSort(t, "two, one after the other", base, l, want)
		}
	}
}

func TestP8_1SortAsked(t *testing.T) {
	m := newMaker(3)
	for n := range 400 {
		for range 5 {
			l, base := m.numbers(n), m.number()
			want := askedSort(base, l)
			wantSort(t, "asked", base, l, want)
			wantSort(t, "asked, in order already", base, want, want)
			wantSort(t, "asked, turned round", base, turned(want), want)
			if n > 0 {
				base = l[m.Intn(n)]
				wantSort(t, "asked, from one of them", base, l, askedSort(base, l))
			}
		}
	}
}

// Many numbers, by the library's order of how far they lie ahead.
func TestP8_1SortOfMany(t *testing.T) {
	m := newMaker(4)
	const n = 1 << 18
	for _, base := range []uint32{0, 1, 1 << 31, last, m.Uint32()} {
		ahead := make([]uint32, n)
		for i := range ahead {
			ahead[i] = m.Uint32() >> m.Intn(32)
		}
		l, want := make([]uint32, n), make([]uint32, n)
		for i, x := range ahead {
			l[i] = far(base, int64(x))
		}
		slices.Sort(ahead)
		for i, x := range ahead {
			want[i] = far(base, int64(x))
		}
		wantSort(t, "many", base, l, want)
		wantSort(t, "many, in order", base, want, want)
		wantSort(t, "many, turned round", base, turned(want), want)
	}
}

// All orders in which a few numbers may come, two of which are one.
func TestP8_1SortOfAllOrders(t *testing.T) {
	for _, base := range []uint32{0, 1, 2, 1 << 31, last - 1, last} {
		l := []uint32{0, 1, last, 1 << 31, 1<<31 + 1, 1}
		want := askedSort(base, l)
		orders := 0
		eachOrder(l, func() {
			orders++
			wantSort(t, "an order", base, l, want)
		})
		if orders != 720 {
			t.Errorf("%d orders were tried", orders)
		}
	}
}

// eachOrder calls do while l is in each of its orders, and leaves it as it was.
func eachOrder(l []uint32, do func()) {
	var from func(int)
	from = func(i int) {
		if i == len(l) {
			do()
		}
		for k := i; k < len(l); k++ {
			l[i], l[k] = l[k], l[i]
			from(i + 1)
			l[i], l[k] = l[k], l[i]
		}
	}
	from(0)
}

func TestP8_2SortHasTheNumbersInOrder(t *testing.T) {
	m := newMaker(5)
	for n := range 600 {
		l, base := m.numbers(n), m.number()
		got := serial.Sort(base, l)
		often := map[uint32]int{}
		for _, x := range l {
			often[x]++
		}
		for i, x := range got {
			often[x]--
			if i > 0 && askedAhead(base, got[i-1]) > askedAhead(base, x) {
				t.Errorf("P8.2: Sort(%d) falls at %d of %d: %d, %d", base, i, n, got[i-1], x)
			}
		}
		for x, k := range often {
			if k != 0 {
				t.Errorf("P8.2: Sort(%d) of %d numbers: %d stands there %d times too seldom", base, n, x, k)
			}
		}
	}
}
