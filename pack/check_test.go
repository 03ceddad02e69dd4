package pack_test

import (
	"math"
	"testing"

	"rookery/api"
)

func TestP10_1Right(t *testing.T) {
	for _, p := range eachKind() {
		wantRight(t, "a packet that may be", p)
	}
}

func TestP10_1Kinds(t *testing.T) {
	none := []int{math.MinInt, math.MinInt32, -257, -256, -255, -4, -3, -2, -1, 0, 5, 6, 127, 128, 255, 256, 257, 258, 259, 260, 1<<16 + 1, 1<<32 + 1, 1<<32 + 4, math.MaxInt}
	for _, p := range eachKind() {
		for _, kind := range none {
			p.Kind = kind
			wantWrong(t, "no kind", p, api.ErrPackKind)
		}
	}
	for _, kind := range none {
		wantWrong(t, "no kind, all else zero", api.Packet{Kind: kind}, api.ErrPackKind)
	}
	for _, p := range eachKind() {
		for kind := -1; kind <= 6; kind++ {
			p.Kind = kind
			wantCheck(t, "the fields of another kind", p, asked(p))
		}
	}
}

func TestP10_1Mine(t *testing.T) {
	for _, p := range eachKind() {
		p.Mine = 0
		wantWrong(t, "Mine 0", p, api.ErrPackForm)
		for _, n := range []uint32{1, 2, 255, 256, 1 << 24, 1<<31 - 1, 1 << 31, most32 - 1, most32} {
			p.Mine = n
			wantRight(t, "Mine 1 or more", p)
		}
	}
}

func TestP10_1BootAndYours(t *testing.T) {
	some := []uint32{1, 2, 256, 1 << 31, most32}
	for _, p := range eachKind() {
		for _, n := range some {
			p.Boot, p.Yours = n, 0
			wantWrong(t, "Yours alone is 0", p, api.ErrPackForm)
			p.Boot, p.Yours = 0, n
			wantWrong(t, "Boot alone is 0", p, api.ErrPackForm)
			for _, other := range some {
				p.Boot, p.Yours = n, other
				wantRight(t, "neither is 0", p)
			}
		}
		p.Boot, p.Yours = 0, 0
		if p.Kind == api.PHello {
			wantRight(t, "both are 0", p)
		} else {
			wantWrong(t, "both are 0", p, api.ErrPackForm)
		}
	}
}

func TestP10_1HelloSeq(t *testing.T) {
	for _, p := range []api.Packet{hello(), greeted()} {
		for _, n := range []uint32{0, 1} {
			p.Seq = n
			wantRight(t, "a Hello's Seq", p)
		}
		for _, n := range []uint32{2, 3, 127, 128, 255, 256, 257, 512, 1 << 16, 1<<16 + 1, 1 << 24, 1<<24 + 1, 1 << 31, most32 - 1, most32} {
			p.Seq = n
			wantWrong(t, "a Hello's Seq", p, api.ErrPackForm)
		}
	}
}

// field: a field that some kinds do not name, and how it is made n.
type field struct {
	name string
	of   []int
	set  func(p *api.Packet, n uint32)
}

func fields() []field {
	return []field{
		{"Seq", []int{api.PAck, api.PBeat}, func(p *api.Packet, n uint32) { p.Seq = n }},
		{"Ack", []int{api.PHello}, func(p *api.Packet, n uint32) { p.Ack = n }},
		{"Stamp", []int{api.PHello, api.PData, api.PAck}, func(p *api.Packet, n uint32) { p.Stamp = n }},
		{"Echo", []int{api.PHello, api.PData, api.PAck}, func(p *api.Packet, n uint32) { p.Echo = n }},
	}
}

func has(kinds []int, kind int) bool {
	n := 0
	for _, k := range kinds {
		if k == kind {
			n++
		}
	}
	return n > 0
}

func TestP10_1FieldsThatARowDoesNotName(t *testing.T) {
	for _, f := range fields() {
		for _, p := range eachKind() {
			if !has(f.of, p.Kind) {
				continue
			}
			for _, n := range []uint32{1, 2, 255, 256, 1 << 16, 1 << 24, 1 << 31, most32} {
				q := p
				f.set(&q, n)
				wantWrong(t, f.name+" is not named", q, api.ErrPackForm)
			}
			f.set(&p, 0)
			wantRight(t, f.name+" is zero", p)
		}
	}
}

func TestP10_1FieldsThatARowNames(t *testing.T) {
	for _, f := range fields() {
		for _, p := range eachKind() {
			if has(f.of, p.Kind) || p.Kind == api.PHello {
				continue
			}
			for _, n := range []uint32{0, 1, 2, 255, 256, 1 << 31, most32} {
				f.set(&p, n)
				wantRight(t, f.name+" is any", p)
			}
		}
	}
}

func TestP10_1BodyWhereNoneIs(t *testing.T) {
	for _, p := range eachKind() {
		if p.Kind == api.PData {
			continue
		}
		for _, n := range []int{1, 2, 999, 1000, 1001, 1002, 65536} {
			p.Body = body(n)
			wantWrong(t, "Body is not named", p, api.ErrPackForm)
			p.Body = make([]byte, n)
			wantWrong(t, "Body is not named, of 0", p, api.ErrPackForm)
		}
		p.Body = []byte{}
		wantRight(t, "an empty Body", p)
	}
}

func TestP10_1ZWhereNoneIs(t *testing.T) {
	for _, p := range eachKind() {
		if p.Kind == api.PBeat {
			continue
		}
		for _, x := range append(rightParts(), wrongParts()...) {
			if x == 0 {
				continue
			}
			for _, z := range []complex128{complex(x, 0), complex(0, x), complex(x, x), complex(minusZero, x), complex(x, minusZero)} {
				p.Z = z
				wantWrong(t, "Z is not named", p, api.ErrPackForm)
			}
		}
		for _, z := range []complex128{complex(minusZero, 0), complex(0, minusZero), complex(minusZero, minusZero)} {
			p.Z = z
			wantRight(t, "Z is equal to 0", p)
		}
	}
}

func TestP10_1ZOfABeat(t *testing.T) {
	p := beat()
	for _, x := range rightParts() {
		for _, y := range rightParts() {
			p.Z = complex(x, y)
			wantRight(t, "both parts may be", p)
		}
		for _, y := range wrongParts() {
			p.Z = complex(x, y)
			wantWrong(t, "the imaginary part may not be", p, api.ErrPackForm)
			p.Z = complex(y, x)
			wantWrong(t, "the real part may not be", p, api.ErrPackForm)
		}
	}
	for _, x := range wrongParts() {
		for _, y := range wrongParts() {
			p.Z = complex(x, y)
			wantWrong(t, "no part may be", p, api.ErrPackForm)
		}
	}
}

func TestP10_1Bodies(t *testing.T) {
	for n := 1; n <= 1000; n++ {
		wantRight(t, "a Body", data(n))
	}
	wantWrong(t, "no Body", data(0), api.ErrPackForm)
	p := data(0)
	p.Body = nil
	wantWrong(t, "a nil Body", p, api.ErrPackForm)
	for _, n := range []int{1001, 1002, 1021, 1022, 65536} {
		wantWrong(t, "a Body that is too long", data(n), api.ErrPackLong)
	}
	for x := range 256 {
		p.Body = []byte{byte(x)}
		wantRight(t, "a Body of each byte", p)
	}
}

// Of several things that are wrong the one that the chapter tells first.
func TestR1CheckFirst(t *testing.T) {
	wrong := data(1001)
	wrong.Mine, wrong.Boot, wrong.Stamp, wrong.Z = 0, 0, 1, complex(math.NaN(), 1)
	wantWrong(t, "too long, and all else", wrong, api.ErrPackLong)
	for _, kind := range []int{-1, 0, 5} {
		wrong.Kind = kind
		wantWrong(t, "no kind, and all else", wrong, api.ErrPackKind)
		long := data(1001)
		long.Kind = kind
		wantWrong(t, "no kind, and a long Body", long, api.ErrPackKind)
	}
	for _, kind := range []int{api.PHello, api.PAck, api.PBeat} {
		wrong.Kind = kind
		wantWrong(t, "a long Body is too long in a Data alone", wrong, api.ErrPackForm)
	}
	for _, f := range fields() {
		p := data(1001)
		f.set(&p, 1)
		wantWrong(t, "too long, and "+f.name, p, api.ErrPackLong)
	}
	p := data(1000)
	p.Mine = 0
	wantWrong(t, "not too long, and Mine", p, api.ErrPackForm)
}

func TestP10_1Asked(t *testing.T) {
	m, often := newMaker(1), map[api.Errno]int{}
	for range 40000 {
		p := m.changed()
		b, e := askedEncode(p)
		often[e]++
		wantCheck(t, "asked", p, e)
		wantEncode(t, "asked", p, b, e)
	}
	for _, e := range []api.Errno{api.OK, api.ErrPackKind, api.ErrPackLong, api.ErrPackForm} {
		if often[e] < 200 {
			t.Errorf("%d was asked for only %d times", e, often[e])
		}
	}
}
