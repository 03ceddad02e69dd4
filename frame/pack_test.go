package frame_test

import (
	"math"
	"testing"

	"rookery/api"
)

// asked: what is wrong with a frame, by the chapter's words.
func asked(f api.Frame) api.Errno {
	node := map[int]int{}
	for n := 1; n <= 64; n++ {
		node[n]++
	}
	if node[f.From]+node[f.To] < 2 || f.From-f.To == 0 {
		return api.ErrFrameNode
	}
	if f.Boot < 1 {
		return api.ErrFrameBoot
	}
	if len(f.Body) >= 1201 {
		return api.ErrFrameLong
	}
	return api.OK
}

// askedPack: a frame's bytes, by the chapter's words.
func askedPack(f api.Frame) ([]byte, api.Errno) {
	if e := asked(f); e != api.OK {
		return nil, e
	}
	return headed(82, 75, byte(f.From), byte(f.To), f.Boot, f.Body), api.OK
}

func TestP6_1Nodes(t *testing.T) {
	nodes := []int{math.MinInt, math.MinInt32, -256, -255, -64, 255, 256, 257, 258, 1<<16 + 1, 1<<32 + 1, 1<<32 + 2, math.MaxInt}
	for n := -3; n <= 70; n++ {
		nodes = append(nodes, n)
	}
	for _, from := range nodes {
		for _, to := range nodes {
			f := shaped(from, to, 1, 3)
			wantCheck(t, "nodes", f, asked(f))
			b, e := askedPack(f)
			wantPack(t, "nodes", f, b, e)
		}
	}
	for _, n := range []int{0, 65, -1} {
		wantWrong(t, "From is none", shaped(n, 1, 1, 0), api.ErrFrameNode)
		wantWrong(t, "To is none", shaped(1, n, 1, 0), api.ErrFrameNode)
		wantWrong(t, "both are none", shaped(n, n, 1, 0), api.ErrFrameNode)
	}
	for n := 1; n <= 64; n++ {
		wantWrong(t, "they are one", shaped(n, n, 1, 0), api.ErrFrameNode)
	}
	wantCheck(t, "the least and the greatest", shaped(1, 64, 1, 0), api.OK)
	wantCheck(t, "the greatest and the least", shaped(64, 1, 1, 0), api.OK)
}

func TestP6_1Boots(t *testing.T) {
	wantWrong(t, "a boot of 0", shaped(1, 2, 0, 0), api.ErrFrameBoot)
	for _, boot := range []uint32{1, 2, 255, 256, 65535, 65536, 1<<24 - 1, 1 << 24, 1<<31 - 1, 1 << 31, 1<<32 - 1} {
		f := shaped(1, 2, boot, 1)
		wantCheck(t, "a boot", f, api.OK)
		b, e := askedPack(f)
		wantPack(t, "a boot", f, b, e)
	}
}

func TestP6_1Bodies(t *testing.T) {
	for n := range 1201 {
		f := shaped(3, 2, 1, n)
		wantCheck(t, "a body", f, api.OK)
		b, e := askedPack(f)
		if len(b) != n+12 {
			t.Fatalf("P6.1: %d bytes for a body of %d", len(b), n)
		}
		wantPack(t, "a body", f, b, e)
	}
	for _, n := range []int{1201, 1202, 1212, 1213, 65536} {
		wantWrong(t, "a body that is too long", shaped(3, 2, 1, n), api.ErrFrameLong)
	}
	for x := range 256 {
		f := api.Frame{From: 1, To: 2, Boot: 1, Body: []byte{byte(x)}}
		b, e := askedPack(f)
		wantPack(t, "a body of each byte", f, b, e)
	}
}

// Each byte of the whole where the chapter puts it, the sum's as well.
func TestP6_1Order(t *testing.T) {
	wantPack(t, "Boot's highest byte first, the sum's lowest first", api.Frame{From: 5, To: 6, Boot: 0x01020304, Body: []byte("hi")},
		[]byte{82, 75, 5, 6, 1, 2, 3, 4, 104, 105, 35, 39, 246, 20}, api.OK)
	wantPack(t, "no body", api.Frame{From: 64, To: 1, Boot: 0xfffefdfc},
		[]byte{82, 75, 64, 1, 255, 254, 253, 252, 97, 80, 83, 114}, api.OK)
}

// Of several things that are wrong the one that the chapter tells first.
func TestR1CheckFirst(t *testing.T) {
	for _, n := range []int{0, 2, 65, -7} {
		wantWrong(t, "From and all behind it", shaped(n, 2, 0, 1201), api.ErrFrameNode)
		wantWrong(t, "From and Boot", shaped(n, 2, 0, 0), api.ErrFrameNode)
		wantWrong(t, "From and Body", shaped(n, 2, 1, 1201), api.ErrFrameNode)
		wantWrong(t, "To and all behind it", shaped(2, n, 0, 1201), api.ErrFrameNode)
	}
	wantWrong(t, "Boot and Body", shaped(1, 2, 0, 1201), api.ErrFrameBoot)
	wantWrong(t, "Body alone", shaped(1, 2, 1, 1201), api.ErrFrameLong)
}

func TestP6_1Asked(t *testing.T) {
	m, often := newMaker(2), map[api.Errno]int{}
	for i := range 6000 {
		f := m.right()
		if i%2 == 1 {
			f = m.wrong()
		}
		e := asked(f)
		often[e]++
		wantCheck(t, "asked", f, e)
		b, e := askedPack(f)
		wantPack(t, "asked", f, b, e)
	}
	wantOften(t, often, api.OK, api.ErrFrameNode, api.ErrFrameBoot, api.ErrFrameLong)
}

func wantOften(t *testing.T, often map[api.Errno]int, l ...api.Errno) {
	t.Helper()
	for _, e := range l {
		if often[e] < 100 {
			t.Errorf("the answer %d was asked for %d times only", e, often[e])
		}
	}
}
