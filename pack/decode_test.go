package pack_test

import (
	"encoding/binary"
	"math"
	"testing"

	"rookery/api"
)

func TestP10_2Right(t *testing.T) {
	for _, p := range append(eachKind(), data(1), data(999), data(1000)) {
		wantDecode(t, "a packet that may be", written(p), p, api.OK)
	}
}

func TestP10_2NoBytes(t *testing.T) {
	wantRefused(t, "nothing", nil, api.ErrPackShort)
	wantRefused(t, "nothing", []byte{}, api.ErrPackShort)
}

func TestP10_2FirstByte(t *testing.T) {
	for x := range 256 {
		for _, n := range []int{1, 2, 13, 14, 15, 17, 21, 22, 41, 42, 1021, 1022, 2000} {
			b := make([]byte, n)
			b[0] = byte(x)
			p, e := askedDecode(b)
			wantDecode(t, "a first byte", b, p, e)
			if x == 0 || x > 4 {
				wantRefused(t, "no kind", b, api.ErrPackKind)
			}
		}
	}
	for x := 1; x <= 4; x++ {
		wantRefused(t, "a kind alone", []byte{byte(x)}, api.ErrPackShort)
	}
}

func TestP10_2FewerBytes(t *testing.T) {
	for _, p := range append(eachKind(), data(1)) {
		b := written(p)
		if p.Kind == api.PData {
			b = b[:22]
		}
		for n := 1; n < len(b); n++ {
			wantRefused(t, "fewer bytes than the kind has", b[:n], api.ErrPackShort)
		}
	}
}

func TestP10_2MoreBytes(t *testing.T) {
	for _, p := range append(eachKind(), data(1000)) {
		b := written(p)
		if p.Kind == api.PData {
			b = written(data(1000))
		}
		for _, n := range []int{1, 2, 3, 4, 8, 1000, 65536} {
			wantRefused(t, "more bytes than the kind has", append(b[:len(b):len(b)], body(n)...), api.ErrPackLong)
			wantRefused(t, "more bytes than the kind has, of 0", append(b[:len(b):len(b)], make([]byte, n)...), api.ErrPackLong)
		}
	}
}

func TestP10_2Bodies(t *testing.T) {
	wantRefused(t, "a Data with no Body", written(data(0)), api.ErrPackShort)
	for n := 1; n <= 1000; n++ {
		wantDecode(t, "a Data", written(data(n)), data(n), api.OK)
	}
	wantRefused(t, "a Data with a Body of 1001", written(data(1001)), api.ErrPackLong)
	wantRefused(t, "a Data with a Body of 1002", written(data(1002)), api.ErrPackLong)
	for x := range 256 {
		p := data(1)
		p.Body[0] = byte(x)
		wantDecode(t, "a Body of each byte", written(p), p, api.OK)
	}
}

func TestP10_2Tokens(t *testing.T) {
	some := []uint32{0, 1, 256, 1 << 24, most32}
	for _, p := range eachKind() {
		for _, mine := range some {
			for _, boot := range some {
				for _, yours := range some {
					q := p
					q.Mine, q.Boot, q.Yours = mine, boot, yours
					if asked(q) == api.OK {
						wantDecode(t, "tokens", written(q), q, api.OK)
					} else {
						wantRefused(t, "tokens that may not be", written(q), api.ErrPackForm)
					}
				}
			}
		}
	}
}

func TestP10_2HelloSeq(t *testing.T) {
	for _, p := range []api.Packet{hello(), greeted()} {
		for x := range 256 {
			p.Seq = uint32(x)
			if x < 2 {
				wantDecode(t, "a Hello's Seq", written(p), p, api.OK)
			} else {
				wantRefused(t, "a Hello's Seq", written(p), api.ErrPackForm)
			}
		}
	}
}

func TestP10_2ZOfABeat(t *testing.T) {
	p := beat()
	for _, x := range rightParts() {
		for _, y := range rightParts() {
			p.Z = complex(x, y)
			wantDecode(t, "both parts may be", written(p), p, api.OK)
		}
		for _, y := range wrongParts() {
			p.Z = complex(x, y)
			wantRefused(t, "the imaginary part may not be", written(p), api.ErrPackForm)
			p.Z = complex(y, x)
			wantRefused(t, "the real part may not be", written(p), api.ErrPackForm)
		}
	}
}

// Bits on both sides of each edge: of 0, of the least, of what is infinite.
func TestP10_2BitsOfABeat(t *testing.T) {
	for _, at := range []int{25, 33} {
		for _, edge := range []uint64{0, 1 << 52, 0x7ff0000000000000, 0x8000000000000000, 0x8010000000000000, 0xfff0000000000000} {
			for d := range uint64(5) {
				b := written(beat())
				binary.BigEndian.PutUint64(b[at:], edge+d-2)
				p, e := askedDecode(b)
				wantDecode(t, "bits", b, p, e)
			}
		}
	}
	b := written(beat())
	binary.BigEndian.PutUint64(b[25:], math.Float64bits(math.MaxFloat64)+1)
	wantRefused(t, "what comes behind the greatest", b, api.ErrPackForm)
}

// Of several things that are wrong the one that the chapter tells first.
func TestR1DecodeFirst(t *testing.T) {
	for _, p := range eachKind() {
		p.Mine, p.Boot, p.Yours = 0, 1, 0
		b := written(p)
		if p.Kind == api.PData {
			wantRefused(t, "short, and of no form", b[:21], api.ErrPackShort)
			b = append(b, make([]byte, 998)...)
		} else {
			wantRefused(t, "short, and of no form", b[:len(b)-1], api.ErrPackShort)
		}
		wantRefused(t, "of no form", b, api.ErrPackForm)
		wantRefused(t, "long, and of no form", append(b, 0), api.ErrPackLong)
		for _, kind := range []byte{0, 5, 255} {
			b[0] = kind
			wantRefused(t, "no kind, and of no form", b, api.ErrPackKind)
			wantRefused(t, "no kind, and short", b[:2], api.ErrPackKind)
			wantRefused(t, "no kind, and long", append(b, make([]byte, 2000)...), api.ErrPackKind)
		}
	}
}

func TestP10_2Asked(t *testing.T) {
	m, often := newMaker(2), map[api.Errno]int{}
	for range 60000 {
		b := m.some()
		p, e := askedDecode(b)
		often[e]++
		wantDecode(t, "asked", b, p, e)
	}
	for _, e := range []api.Errno{api.OK, api.ErrPackKind, api.ErrPackLong, api.ErrPackShort, api.ErrPackForm} {
		if often[e] < 1000 {
			t.Errorf("%d was asked for only %d times", e, often[e])
		}
	}
}
