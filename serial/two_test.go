package serial_test

import (
	"testing"

	"rookery/serial"
)

func TestP8_1EachEdgeWithEach(t *testing.T) {
	for _, a := range edges() {
		for _, b := range edges() {
			wantTwo(t, a, b)
		}
	}
}

// Every edge as a step, from every edge, over the end and round to 0 too.
func TestP8_1EdgesAsSteps(t *testing.T) {
	for _, a := range edges() {
		for _, n := range edges() {
			b := far(a, int64(n))
			wantTwo(t, a, b)
			wantTwo(t, b, a)
			if got := serial.Ahead(a, b); got != n {
				t.Errorf("P8.1: Ahead(%d, %d): %d, not %d", a, b, got, n)
			}
		}
	}
}

func TestP8_1Ahead(t *testing.T) {
	for _, c := range []struct{ a, b, n uint32 }{
		{0, 0, 0}, {7, 7, 0}, {last, last, 0}, {1, 3, 2}, {3, 1, last - 1}, {0, 1, 1}, {1, 0, last},
		{0, last, last}, {last, 0, 1}, {last, 1, 2}, {last - 2, 4, 7},
		{0, 1<<31 - 1, 1<<31 - 1}, {0, 1 << 31, 1 << 31}, {0, 1<<31 + 1, 1<<31 + 1},
		{1<<31 - 1, 0, 1<<31 + 1}, {1 << 31, 0, 1 << 31}, {1<<31 + 1, 0, 1<<31 - 1},
		{1<<31 - 1, 1 << 31, 1}, {1 << 31, 1<<31 - 1, last}, {last, 1<<31 - 1, 1 << 31},
	} {
		if got := serial.Ahead(c.a, c.b); got != c.n {
			t.Errorf("P8.1: Ahead(%d, %d): %d, not %d", c.a, c.b, got, c.n)
		}
	}
}

// Ahead, counted step by step, over the end and over the middle.
func TestP8_1AheadIsCounted(t *testing.T) {
	for _, a := range []uint32{0, 1<<31 - 500, 1 << 31, last - 500, last} {
		at := a
		for n := range uint32(1000) {
			if got := serial.Ahead(a, at); got != n {
				t.Errorf("P8.1: Ahead(%d, %d): %d, not %d", a, at, got, n)
			}
			at++
		}
	}
}

func TestP8_1LessAndMax(t *testing.T) {
	for _, c := range []struct {
		a, b uint32
		less bool
		max  uint32
	}{
		{5, 5, false, 5}, {0, 0, false, 0}, {last, last, false, last}, {1 << 31, 1 << 31, false, 1 << 31},
		{5, 6, true, 6}, {6, 5, false, 6}, {last, 0, true, 0}, {0, last, false, 0}, {last, 2, true, 2}, {2, last, false, 2},
		{0, 1<<31 - 1, true, 1<<31 - 1}, {1<<31 - 1, 0, false, 1<<31 - 1},
		{0, 1 << 31, false, 0}, {1 << 31, 0, false, 1 << 31},
		{0, 1<<31 + 1, false, 0}, {1<<31 + 1, 0, true, 0},
		{1, 1<<31 + 1, false, 1}, {1<<31 + 1, 1, false, 1<<31 + 1},
		{last, 1<<31 - 2, true, 1<<31 - 2}, {last, 1<<31 - 1, false, last}, {1<<31 - 1, last, false, 1<<31 - 1}, {last, 1 << 31, false, last},
	} {
		if got := serial.Less(c.a, c.b); got != c.less {
			t.Errorf("P8.1: Less(%d, %d): %v", c.a, c.b, got)
		}
		if got := serial.Max(c.a, c.b); got != c.max {
			t.Errorf("P8.1: Max(%d, %d): %d, not %d", c.a, c.b, got, c.max)
		}
	}
}

// Of two that are 2^31 apart neither is Less, and Max is the first one.
func TestP8_1HalfTheRoundApart(t *testing.T) {
	m := newMaker(1)
	for range 2000 {
		a := m.number()
		b := far(a, half)
		if serial.Less(a, b) || serial.Less(b, a) {
			t.Errorf("P8.1: %d and %d are 2^31 apart: Less", a, b)
		}
		if serial.Max(a, b) != a || serial.Max(b, a) != b {
			t.Errorf("P8.1: %d and %d are 2^31 apart: Max is not the first", a, b)
		}
		near, over := far(a, half-1), far(a, half+1)
		if !serial.Less(a, near) || serial.Less(near, a) || serial.Less(a, over) || !serial.Less(over, a) {
			t.Errorf("P8.1: from %d 2^31 - 1 or 2^31 + 1 steps: Less", a)
		}
	}
}

func TestP8_1In(t *testing.T) {
	for _, base := range edges() {
		for _, x := range edges() {
			wantIn(t, base, 0, x, false)
			wantIn(t, base, 1, x, base == x)
			wantIn(t, base, last, x, far(x, 1) != base)
			for _, n := range edges() {
				wantIn(t, base, n, x, askedAhead(base, x) < int64(n))
			}
		}
	}
}

// At the base, at the last number that is in, at the next, and behind the base.
func TestP8_1InAtItsEnds(t *testing.T) {
	for _, base := range edges() {
		for _, n := range edges() {
			before := far(base, whole-1)
			wantIn(t, base, n, base, n > 0)
			wantIn(t, base, n, far(base, int64(n)), false)
			wantIn(t, base, n, before, false)
			if n > 0 {
				wantIn(t, base, n, far(base, int64(n)-1), true)
			}
		}
	}
	wantIn(t, last-1, 3, last-2, false)
	wantIn(t, last-1, 3, last-1, true)
	wantIn(t, last-1, 3, last, true)
	wantIn(t, last-1, 3, 0, true)
	wantIn(t, last-1, 3, 1, false)
}

func TestP8_1Asked(t *testing.T) {
	m := newMaker(2)
	for range 50000 {
		a, b, n := m.number(), m.number(), m.number()
		wantTwo(t, a, b)
		wantIn(t, a, n, b, askedAhead(a, b) < int64(n))
	}
}

func TestP8_1Examples(t *testing.T) {
	if !serial.Less(4294967295, 0) || serial.Less(0, 2147483648) || serial.Less(2147483648, 0) {
		t.Error("P8.1: the examples of Less")
	}
	wantIn(t, 4294967294, 3, 0, true)
	wantSort(t, "the example", 4294967295, []uint32{0, 4294967295, 4294967294}, []uint32{4294967295, 0, 4294967294})
}
