package frame

import (
	"bytes"

	"rookery/api"
)

const (
	mark0 = 82
	mark1 = 75

	ahead  = 8 // of the Body: the mark, From, To and Boot
	behind = 4 // the Body: the sum

	// The sum is what a division of polynomials leaves over; in its bits, and in
	// these of the divisor, the highest power stands lowest.
	divisor = 3988292384
)

// shifted: c divided on by one bit.
func shifted(c uint32) uint32 {
	if c&1 == 1 {
		return c>>1 ^ divisor
	}
	return c >> 1
}

func isNode(n int) bool { return 1 <= n && n <= api.MaxNode }

// laid: the bytes of a frame that may be.
func laid(f api.Frame) []byte {
	b := make([]byte, 0, ahead+len(f.Body)+behind)
	b = append(b, mark0, mark1, byte(f.From), byte(f.To))
	b = append(b, byte(f.Boot>>24), byte(f.Boot>>16), byte(f.Boot>>8), byte(f.Boot))
	b = append(b, f.Body...)
	s := Sum(b)
	return append(b, byte(s), byte(s>>8), byte(s>>16), byte(s>>24))
}

// said: the frame that bytes of a right length say, whether it may be or not.
func said(b []byte) api.Frame {
	return api.Frame{
		From: int(b[2]),
		To:   int(b[3]),
		Boot: uint32(b[4])<<24 | uint32(b[5])<<16 | uint32(b[6])<<8 | uint32(b[7]),
		Body: bytes.Clone(b[ahead : len(b)-behind]),
	}
}

// saidSum: what the last bytes say that the sum is.
func saidSum(b []byte) uint32 {
	s := b[len(b)-behind:]
	return uint32(s[0]) | uint32(s[1])<<8 | uint32(s[2])<<16 | uint32(s[3])<<24
}
