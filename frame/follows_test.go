package frame_test

import (
	"slices"
	"testing"

	"rookery/api"
	"rookery/frame"
)

func TestP6_3OpenOfPack(t *testing.T) {
	m := newMaker(5)
	for i := range 5000 {
		f := m.right()
		b, e := frame.Pack(f)
		got, e2 := frame.Open(b)
		if e != api.OK || e2 != api.OK || !equal(got, f) {
			t.Errorf("P6.3: Open of Pack is not the frame (%d): %d, %d", i, e, e2)
		}
	}
}

func TestP6_3PackOfOpen(t *testing.T) {
	m, opened := newMaker(6), 0
	for i := range 20000 {
		b := m.some()
		f, e := frame.Open(b)
		if e != api.OK {
			continue
		}
		opened++
		if got, e := frame.Pack(f); e != api.OK || !slices.Equal(got, b) {
			t.Errorf("P6.3: Pack of what Open tells are not the bytes (%d): %d", i, e)
		}
	}
	if opened < 1000 {
		t.Errorf("only %d were opened", opened)
	}
}

// turn turns the bits of b that are 1 in bits, the lowest of which falls on the
// bit at of b, the lowest bit of each byte first.
func turn(b []byte, at int, bits uint32) {
	for i := range 32 {
		if bits>>i&1 == 1 {
			b[(at+i)/8] ^= 1 << ((at + i) % 8)
		}
	}
}

// changes: which bits are turned where left of them are left.
func (m maker) changes(left int) []uint32 {
	all := uint32(1<<32 - 1)
	out := []uint32{1, 3, 5, 255, 256, 1 << 31, 1<<31 | 1, all, all - 1, 0xedb88320, 0xdb710641, 0x04c11db7, 0x82608edb, m.Uint32(), m.Uint32() | 1<<31 | 1}
	for i := range out {
		if left < 32 {
			out[i] &= 1<<left - 1
		}
	}
	return slices.DeleteFunc(out, func(x uint32) bool { return x == 0 })
}

func TestP6_3Changed(t *testing.T) {
	m := newMaker(7)
	for _, n := range []int{0, 1, 2, 3, 4, 5, 31, 100} {
		b, _ := frame.Pack(api.Frame{From: 1, To: 2, Boot: m.boot(), Body: m.bytes(n)})
		for at := range len(b) * 8 {
			for _, bits := range m.changes(len(b)*8 - at) {
				wantChanged(t, b, at, bits)
			}
		}
	}
}

// wantChanged: turned bits are refused, and told apart by the sum.
func wantChanged(t *testing.T, b []byte, at int, bits uint32) {
	t.Helper()
	c := slices.Clone(b)
	turn(c, at, bits)
	if f, e := frame.Open(c); e != api.ErrFrameSum || !equal(f, api.Frame{}) {
		t.Errorf("P6.3: %032b was turned at bit %d of %d bytes: %v, %d", bits, at, len(b), f, e)
	}
	if frame.Sum(c) == frame.Sum(b) {
		t.Errorf("P6.3: %032b was turned at bit %d of %d bytes, which have one sum", bits, at, len(b))
	}
}

// All ways to change up to 12 bits that stand one behind the other, at every
// place of the shortest frame's bytes, its sum included.
func TestP6_3ChangedAllWays(t *testing.T) {
	b, _ := frame.Pack(api.Frame{From: 3, To: 64, Boot: 1<<32 - 2})
	for at := range len(b) * 8 {
		for inner := range uint32(1 << 11) {
			bits := inner<<1 | 1
			if left := len(b)*8 - at; left >= 32 || bits < 1<<left {
				wantChanged(t, b, at, bits)
			}
		}
	}
}

// At every place of the longest frame's bytes.
func TestP6_3ChangedLongest(t *testing.T) {
	m := newMaker(8)
	b, _ := frame.Pack(api.Frame{From: 64, To: 63, Boot: 1, Body: m.bytes(api.MaxBody)})
	for at := range len(b) * 8 {
		bits := m.Uint32() | 1
		if left := len(b)*8 - at; left < 32 {
			bits &= 1<<left - 1
		}
		wantChanged(t, b, at, bits)
	}
}

// Bytes that are no frame's have unlike sums too, if they differ so.
func TestP6_3UnlikeSums(t *testing.T) {
	m := newMaker(9)
	for _, n := range []int{1, 2, 3, 4, 5, 8, 20, 2000} {
		b := m.bytes(n)
		for range 3000 / n * 4 {
			at := m.Intn(n * 8)
			for _, bits := range m.changes(n*8 - at) {
				c := slices.Clone(b)
				turn(c, at, bits)
				if frame.Sum(b) == frame.Sum(c) {
					t.Errorf("P6.3: %032b was turned at bit %d of %d bytes, which have one sum", bits, at, n)
				}
			}
		}
	}
}

// All sums of bytes up to four whose places but one are 0 are unlike.
func TestP6_3UnlikeSumsOfFour(t *testing.T) {
	seen := map[uint32]int{}
	for at := range 4 {
		for x := 1; x < 256; x++ {
			b := make([]byte, 4)
			b[at] = byte(x)
			seen[frame.Sum(b)]++
		}
	}
	if len(seen) != 4*255 {
		t.Errorf("P6.3: %d sums for %d four bytes", len(seen), 4*255)
	}
}
