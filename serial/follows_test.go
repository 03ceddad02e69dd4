package serial_test

import (
	"testing"

	"rookery/serial"
)

// wantJustOne: of a and b, one of which is not the other, just one is Less, but
// for those that are 2^31 apart.
func wantJustOne(t *testing.T, a, b uint32) {
	t.Helper()
	want := 1
	if a == b || far(a, half) == b {
		want = 0
	}
	got := 0
	for _, less := range []bool{serial.Less(a, b), serial.Less(b, a)} {
		if less {
			got++
		}
	}
	if got != want {
		t.Errorf("P8.2: of %d and %d: %d are Less than the other, not %d", a, b, got, want)
	}
	if want == 1 && serial.Max(a, b) != serial.Max(b, a) {
		t.Errorf("P8.2: Max of %d and %d hangs on which one comes first", a, b)
	}
}

func TestP8_2JustOneIsLess(t *testing.T) {
	m := newMaker(6)
	for _, a := range edges() {
		for _, n := range edges() {
			wantJustOne(t, a, n)
			wantJustOne(t, a, far(a, int64(n)))
		}
	}
	for range 50000 {
		wantJustOne(t, m.number(), m.number())
	}
}

// wantMoved: adding n to all changes nothing.
func wantMoved(t *testing.T, a, b, n uint32) {
	t.Helper()
	c, d := far(a, int64(n)), far(b, int64(n))
	if serial.Less(a, b) != serial.Less(c, d) || serial.Ahead(a, b) != serial.Ahead(c, d) || far(serial.Max(a, b), int64(n)) != serial.Max(c, d) {
		t.Errorf("P8.2: adding %d to %d and %d changes something", n, a, b)
	}
	for _, k := range []uint32{0, 1, 1 << 31, last, n} {
		if serial.In(a, k, b) != serial.In(c, k, d) {
			t.Errorf("P8.2: adding %d to %d and %d changes whether they are within %d", n, a, b, k)
		}
	}
}

func TestP8_2AddingTheSame(t *testing.T) {
	m := newMaker(7)
	for _, a := range edges() {
		for _, b := range edges() {
			for _, n := range edges() {
				wantMoved(t, a, b, n)
			}
		}
	}
	for range 50000 {
		wantMoved(t, m.number(), m.number(), m.number())
	}
}

func TestP8_2SortOfMoved(t *testing.T) {
	m := newMaker(8)
	for n := range 200 {
		l, base, by := m.numbers(n), m.number(), int64(m.number())
		want := serial.Sort(base, l)
		moved := make([]uint32, n)
		for i := range l {
			moved[i], want[i] = far(l[i], by), far(want[i], by)
		}
		wantSort(t, "P8.2: moved", far(base, by), moved, want)
	}
}

// Within a window from base on Less is the order of how far numbers lie ahead of
// base: none is Less than itself, one of two is, and what is Less than one that
// is Less than a third one is Less than that.
func TestP8_2OrderInAWindow(t *testing.T) {
	m := newMaker(9)
	for _, wide := range []int64{1, 2, 3, 100, 1 << 30, half - 2, half - 1} {
		ahead := []int64{0, wide / 3, wide / 2, wide - 1, max(wide-2, 0), min(1, wide-1), m.Int63n(wide), m.Int63n(wide)}
		for _, base := range edges() {
			for _, i := range ahead {
				for _, k := range ahead {
					wantInOrder(t, base, i, k)
					for _, n := range ahead {
						wantOverOne(t, far(base, i), far(base, k), far(base, n))
					}
				}
			}
		}
	}
}

func wantInOrder(t *testing.T, base uint32, i, k int64) {
	t.Helper()
	a, b := far(base, i), far(base, k)
	if serial.Less(a, b) != (i < k) || serial.Max(a, b) != far(base, max(i, k)) {
		t.Errorf("P8.2: %d and %d, which lie %d and %d ahead of %d: Less, or Max, is no order", a, b, i, k, base)
	}
}

func wantOverOne(t *testing.T, a, b, c uint32) {
	t.Helper()
	if serial.Less(a, b) && serial.Less(b, c) && !serial.Less(a, c) {
		t.Errorf("P8.2: %d is Less than %d, and that than %d, but not the first than the last", a, b, c)
	}
}

// In a wider window it is none: one may come round to where one began.
func TestP8_2NoOrderRoundTheWhole(t *testing.T) {
	for _, a := range edges() {
		b, c := far(a, 3<<29), far(a, 3<<30)
		if !serial.Less(a, b) || !serial.Less(b, c) || !serial.Less(c, a) {
			t.Errorf("P8.2: %d, %d and %d go round", a, b, c)
		}
	}
}

// A window's numbers come from Sort as Less puts them.
func TestP8_2SortIsLess(t *testing.T) {
	m := newMaker(10)
	for n := range 100 {
		base := m.number()
		l := make([]uint32, n)
		for i := range l {
			l[i] = far(base, m.Int63n(half-1))
		}
		got := serial.Sort(base, l)
		for i := range got {
			if i > 0 && got[i] != got[i-1] && !serial.Less(got[i-1], got[i]) {
				t.Errorf("P8.2: Sort(%d) puts %d ahead of %d, which is Less", base, got[i-1], got[i])
			}
		}
	}
}
