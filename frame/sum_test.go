package frame_test

import (
	"hash/crc32"
	"math/big"
	"testing"

	"rookery/frame"
)

// askedSum: the chapter's words in numbers that know no bits.
func askedSum(b []byte) uint32 {
	most := uint64(1<<32 - 1)
	c := most
	for _, x := range b {
		c = apart(c, uint64(x))
		for i := 0; i < 8; i++ {
			odd := c % 2
			c = c / 2
			if odd == 1 {
				c = apart(c, 3988292384)
			}
		}
	}
	return uint32(apart(c, most))
}

// apart: exclusive-or, place by place: a 1 where just one of both has it.
func apart(x, y uint64) uint64 {
	var out uint64
	for place := uint64(1); place < 1<<32; place *= 2 {
		out += (x/place%2 + y/place%2) % 2 * place
	}
	return out
}

// divided: the sum once more, as the rest of a division of polynomials whose
// terms are whole numbers' bits.
func divided(b []byte) uint32 {
	by, _ := new(big.Int).SetString("104C11DB7", 16)
	n := new(big.Int)
	for i := range len(b)*8 + 32 {
		var x uint
		if i < len(b)*8 {
			x = uint(b[i/8]>>(i%8)) & 1
		}
		if i < 32 {
			x ^= 1
		}
		n.Lsh(n, 1)
		n.SetBit(n, 0, x)
		if n.BitLen() == 33 {
			n.Xor(n, by)
		}
	}
	var out uint32
	for i := range 32 {
		out |= uint32(n.Bit(31-i)^1) << i
	}
	return out
}

func TestP6_1SumExamples(t *testing.T) {
	wantSum(t, "the example", []byte("123456789"), 3421780262)
	wantSum(t, "nothing", nil, 0)
	wantSum(t, "nothing", []byte{}, 0)
	wantSum(t, "a byte of 0", []byte{0}, 3523407757)
	wantSum(t, "a byte of 255", []byte{255}, 4278190080)
	wantSum(t, "four of 255", []byte{255, 255, 255, 255}, 4294967295)
}

func TestP6_1SumOfSingleBytes(t *testing.T) {
	for x := range 256 {
		b := []byte{byte(x)}
		wantSum(t, "a single byte", b, askedSum(b))
		wantSum(t, "a single byte", b, divided(b))
	}
}

func TestP6_1SumOfTwoBytes(t *testing.T) {
	for x := range 1 << 16 {
		b := []byte{byte(x), byte(x >> 8)}
		wantSum(t, "two bytes", b, crc32.ChecksumIEEE(b))
	}
}

func TestP6_1SumOfMany(t *testing.T) {
	m := newMaker(1)
	for n := range 300 {
		b := m.bytes(n)
		wantSum(t, "bytes of chance", b, askedSum(b))
		wantSum(t, "bytes of chance", b, divided(b))
		wantSum(t, "bytes of chance", b, crc32.ChecksumIEEE(b))
		wantSum(t, "bytes of 0", make([]byte, n), crc32.ChecksumIEEE(make([]byte, n)))
	}
	for _, n := range []int{1208, 1209, 1212, 1213, 65536, 1 << 20} {
		b := m.bytes(n)
		wantSum(t, "more than a frame has", b, crc32.ChecksumIEEE(b))
	}
}

// The sum of bytes is told apart by their order and by how many there are.
func TestP6_1SumOfOrder(t *testing.T) {
	for n := range 40 {
		if n > 0 && frame.Sum(make([]byte, n)) == frame.Sum(make([]byte, n-1)) {
			t.Errorf("P6.1: %d and %d bytes of 0 have one sum", n, n-1)
		}
	}
	if frame.Sum([]byte{1, 2}) == frame.Sum([]byte{2, 1}) {
		t.Error("P6.1: 1, 2 and 2, 1 have one sum")
	}
}
