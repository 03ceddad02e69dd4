package serial

import "testing"

// Each number of 8 bits to each, counted step by step.
func TestP8_1StepsOf8Bits(t *testing.T) {
	for a := range 256 {
		at := uint8(a)
		for n := range 256 {
			if got := steps(uint8(a), at); got != uint8(n) {
				t.Errorf("P8.1: %d steps from %d to %d, not %d", got, a, at, n)
			}
			at++
		}
	}
}

func TestP8_1StepsOf16Bits(t *testing.T) {
	for _, a := range []uint16{0, 1, 1<<15 - 1, 1 << 15, 1<<15 + 1, 1<<16 - 2, 1<<16 - 1} {
		at := a
		for n := range 1 << 16 {
			if got := steps(a, at); got != uint16(n) {
				t.Errorf("P8.1: %d steps from %d to %d, not %d", got, a, at, n)
			}
			at++
		}
	}
}

func TestP8_1StepsOf64Bits(t *testing.T) {
	for _, c := range []struct{ from, to, n uint64 }{
		{0, 0, 0}, {7, 9, 2}, {9, 7, 1<<64 - 2}, {1<<64 - 1, 0, 1}, {0, 1<<64 - 1, 1<<64 - 1},
		{1<<32 - 1, 1 << 32, 1}, {1 << 63, 0, 1 << 63}, {0, 1 << 63, 1 << 63}, {1<<64 - 1, 1<<63 - 1, 1 << 63},
	} {
		if got := steps(c.from, c.to); got != c.n {
			t.Errorf("P8.1: %d steps from %d to %d, not %d", got, c.from, c.to, c.n)
		}
	}
}
