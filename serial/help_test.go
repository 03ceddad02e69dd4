package serial_test

import (
	"math/rand"
	"slices"
	"testing"

	"rookery/serial"
)

const (
	whole = int64(1) << 32 // the round
	half  = whole / 2
	last  = uint32(1<<32 - 1)
)

// askedAhead: b less a modulo 2^32, in numbers that do not go round.
func askedAhead(a, b uint32) int64 {
	return ((int64(b)-int64(a))%whole + whole) % whole
}

func askedLess(a, b uint32) bool {
	n := askedAhead(a, b)
	return n >= 1 && n <= half-1
}

func askedMax(a, b uint32) uint32 {
	if askedLess(a, b) {
		return b
	}
	return a
}

// askedSort puts number by number where it belongs, behind those as near.
func askedSort(base uint32, l []uint32) []uint32 {
	var out []uint32
	for _, x := range l {
		at := 0
		for at < len(out) && askedAhead(base, out[at]) <= askedAhead(base, x) {
			at++
		}
		out = slices.Insert(out, at, x)
	}
	return out
}

// far: the number that lies n steps ahead of a.
func far(a uint32, n int64) uint32 { return uint32((int64(a) + n) % whole) }

// edges: numbers, and steps, at which something turns.
func edges() []uint32 {
	return []uint32{0, 1, 2, 3, 255, 256, 65535, 65536, 1 << 30, 1<<31 - 2, 1<<31 - 1, 1 << 31, 1<<31 + 1, 1<<31 + 2,
		3 << 30, 1<<32 - 65536, last - 3, last - 2, last - 1, last}
}

// clip: as many numbers as a message needs.
func clip(l []uint32) []uint32 { return l[:min(len(l), 12)] }

// wantTwo holds all calls of two numbers against what is asked.
func wantTwo(t *testing.T, a, b uint32) {
	t.Helper()
	if got := serial.Ahead(a, b); int64(got) != askedAhead(a, b) {
		t.Errorf("P8.1: Ahead(%d, %d): %d, not %d", a, b, got, askedAhead(a, b))
	}
	if got := serial.Less(a, b); got != askedLess(a, b) {
		t.Errorf("P8.1: Less(%d, %d): %v", a, b, got)
	}
	if got := serial.Max(a, b); got != askedMax(a, b) {
		t.Errorf("P8.1: Max(%d, %d): %d, not %d", a, b, got, askedMax(a, b))
	}
}

func wantIn(t *testing.T, base, n, x uint32, want bool) {
	t.Helper()
	if got := serial.In(base, n, x); got != want {
		t.Errorf("P8.1: In(%d, %d, %d): %v", base, n, x, got)
	}
}

func wantSort(t *testing.T, what string, base uint32, l, want []uint32) {
	t.Helper()
	if got := serial.Sort(base, l); !slices.Equal(got, want) {
		t.Errorf("P8.1: %s: Sort(%d) of %d numbers %v: %d numbers %v, not %v", what, base, len(l), clip(l), len(got), clip(got), clip(want))
	}
}

// maker makes numbers, the same ones for the same seed.
type maker struct{ *rand.Rand }

func newMaker(seed int64) maker { return maker{rand.New(rand.NewSource(seed))} }

// number: any, often at an edge.
func (m maker) number() uint32 {
	if e := edges(); m.Intn(3) == 0 {
		return e[m.Intn(len(e))]
	}
	return m.Uint32()
}

// numbers: n of them; often some are one, and often they lie close by.
func (m maker) numbers(n int) []uint32 {
	out := make([]uint32, n)
	near, mid := m.Intn(2) == 0, m.number()
	for i := range out {
		switch {
		case near:
			out[i] = far(mid, int64(m.Intn(2*n)))
		case i > 0 && m.Intn(4) == 0:
			out[i] = out[m.Intn(i)]
		default:
			out[i] = m.number()
		}
	}
	return out
}
