package frame_test

import (
	"encoding/binary"
	"hash/crc32"
	"testing"

	"rookery/api"
	"rookery/frame"
)

// askedOpen: what bytes say, by the chapter's words.
func askedOpen(b []byte) (api.Frame, api.Errno) {
	if len(b) <= 11 {
		return api.Frame{}, api.ErrFrameShort
	}
	if len(b) >= 1213 {
		return api.Frame{}, api.ErrFrameLong
	}
	n := len(b) - 4
	if binary.LittleEndian.Uint32(b[n:]) != crc32.ChecksumIEEE(b[:n]) {
		return api.Frame{}, api.ErrFrameSum
	}
	if string(b[:2]) != "RK" {
		return api.Frame{}, api.ErrFrameMark
	}
	f := api.Frame{From: int(b[2]), To: int(b[3]), Boot: binary.BigEndian.Uint32(b[4:]), Body: append([]byte{}, b[8:n]...)}
	if e := asked(f); e != api.OK {
		return api.Frame{}, e
	}
	return f, api.OK
}

func TestP6_2Lengths(t *testing.T) {
	m := newMaker(3)
	for n := range 12 {
		wantRefused(t, "fewer than 12", m.bytes(n), api.ErrFrameShort)
		wantRefused(t, "fewer than 12, of 0", make([]byte, n), api.ErrFrameShort)
		if n >= 4 {
			wantRefused(t, "fewer than 12, with a right sum", summed(append([]byte("RK"), make([]byte, 6)...)[:n-4]), api.ErrFrameShort)
		}
	}
	wantRefused(t, "nothing", nil, api.ErrFrameShort)
	wantOpen(t, "12 bytes", headed(82, 75, 1, 2, 1, nil), api.Frame{From: 1, To: 2, Boot: 1}, api.OK)
	for _, n := range []int{1, 2, 1199, 1200} {
		f := shaped(1, 2, 1, n)
		wantOpen(t, "a body", headed(82, 75, 1, 2, 1, f.Body), f, api.OK)
	}
	for _, n := range []int{1201, 1202, 1300, 65536} {
		wantRefused(t, "too long, and right but for that", headed(82, 75, 1, 2, 1, make([]byte, n)), api.ErrFrameLong)
	}
	wantRefused(t, "1213 bytes of 0", make([]byte, 1213), api.ErrFrameLong)
	wantRefused(t, "1212 bytes of 0", make([]byte, 1212), api.ErrFrameSum)
}

func TestP6_2Sums(t *testing.T) {
	for _, n := range []int{0, 1, 5, 1200} {
		b := headed(82, 75, 1, 2, 1, make([]byte, n))
		for i := len(b) - 4; i < len(b); i++ {
			right := b[i]
			for x := range 256 {
				if b[i] = byte(x); b[i] != right {
					wantRefused(t, "a byte of the sum is another", b, api.ErrFrameSum)
				}
			}
			b[i] = right
		}
		wantOpen(t, "the right sum", b, api.Frame{From: 1, To: 2, Boot: 1, Body: make([]byte, n)}, api.OK)
		s := b[len(b)-4:]
		s[0], s[1], s[2], s[3] = s[3], s[2], s[1], s[0]
		wantRefused(t, "the sum's highest byte first", b, api.ErrFrameSum)
		s[0], s[1], s[2], s[3] = 0, 0, 0, 0
		wantRefused(t, "no sum", b, api.ErrFrameSum)
	}
}

func TestP6_2Marks(t *testing.T) {
	for x := range 1 << 16 {
		one, two := byte(x), byte(x>>8)
		if one == 82 && two == 75 {
			continue
		}
		wantRefused(t, "a wrong mark", headed(one, two, 1, 2, 1, nil), api.ErrFrameMark)
	}
}

func TestP6_2Nodes(t *testing.T) {
	for x := range 1 << 16 {
		from, to := byte(x), byte(x>>8)
		b := headed(82, 75, from, to, 7, []byte("a"))
		f, e := askedOpen(b)
		wantOpen(t, "nodes", b, f, e)
	}
	for _, n := range []byte{0, 2, 65, 255} {
		wantRefused(t, "From", headed(82, 75, n, 2, 1, nil), api.ErrFrameNode)
		wantRefused(t, "To", headed(82, 75, 2, n, 1, nil), api.ErrFrameNode)
	}
}

func TestP6_2Boots(t *testing.T) {
	wantRefused(t, "a boot of 0", headed(82, 75, 1, 2, 0, nil), api.ErrFrameBoot)
	for i := range 32 {
		wantOpen(t, "a boot of one bit", headed(82, 75, 1, 2, 1<<i, nil), api.Frame{From: 1, To: 2, Boot: 1 << i}, api.OK)
	}
	wantOpen(t, "the greatest boot", headed(82, 75, 1, 2, 1<<32-1, nil), api.Frame{From: 1, To: 2, Boot: 1<<32 - 1}, api.OK)
	wantOpen(t, "Boot's highest byte first", summed([]byte{82, 75, 1, 2, 1, 2, 3, 4}), api.Frame{From: 1, To: 2, Boot: 0x01020304}, api.OK)
}

// Of several things that are wrong the one that the chapter tells first.
func TestR1OpenFirst(t *testing.T) {
	spoilt := func(b []byte) []byte {
		b[len(b)-1] ^= 1
		return b
	}
	long := make([]byte, 1201)
	wantRefused(t, "long ahead of the sum", spoilt(headed(82, 75, 1, 2, 1, long)), api.ErrFrameLong)
	wantRefused(t, "long ahead of the mark", headed(82, 76, 1, 2, 1, long), api.ErrFrameLong)
	wantRefused(t, "long ahead of the nodes and the boot", headed(82, 75, 1, 1, 0, long), api.ErrFrameLong)
	wantRefused(t, "short ahead of all", []byte{1, 2, 3, 4, 5, 6, 7, 8, 9, 10, 11}, api.ErrFrameShort)
	wantRefused(t, "the sum ahead of the mark", spoilt(headed(82, 76, 1, 2, 1, nil)), api.ErrFrameSum)
	wantRefused(t, "the sum ahead of the nodes and the boot", spoilt(headed(82, 75, 0, 0, 0, nil)), api.ErrFrameSum)
	wantRefused(t, "the mark ahead of the nodes", headed(75, 82, 0, 65, 1, nil), api.ErrFrameMark)
	wantRefused(t, "the mark ahead of the boot", headed(81, 75, 1, 2, 0, nil), api.ErrFrameMark)
	wantRefused(t, "the nodes ahead of the boot", headed(82, 75, 3, 3, 0, nil), api.ErrFrameNode)
	wantRefused(t, "12 bytes of 0", make([]byte, 12), api.ErrFrameSum)
}

func TestP6_2Asked(t *testing.T) {
	m, often := newMaker(4), map[api.Errno]int{}
	for range 20000 {
		b := m.some()
		f, e := askedOpen(b)
		often[e]++
		wantOpen(t, "asked", b, f, e)
	}
	wantOften(t, often, api.OK, api.ErrFrameShort, api.ErrFrameLong, api.ErrFrameSum, api.ErrFrameMark, api.ErrFrameNode, api.ErrFrameBoot)
}

func TestP6_2Examples(t *testing.T) {
	wantRefused(t, "11 bytes", make([]byte, 11), api.ErrFrameShort)
	b, _ := frame.Pack(api.Frame{From: 1, To: 64, Boot: 258, Body: []byte("hi")})
	wantRefused(t, "11 bytes of a frame", b[:11], api.ErrFrameShort)
}
