package pack_test

import (
	"encoding/binary"
	"math"
	"math/rand"
	"slices"
	"testing"

	"rookery/api"
	"rookery/pack"
)

const most32 = 1<<32 - 1

var minusZero = math.Copysign(0, -1)

// body: n bytes, of which no two neighbours are the same.
func body(n int) []byte {
	b := make([]byte, n)
	for i := range b {
		b[i] = byte(i*7 + n)
	}
	return b
}

func hello() api.Packet { return api.Packet{Kind: api.PHello, Mine: 3} }

func greeted() api.Packet {
	return api.Packet{Kind: api.PHello, Mine: 3, Boot: 4, Yours: 5, Seq: 1}
}

func data(n int) api.Packet {
	return api.Packet{Kind: api.PData, Mine: 3, Boot: 4, Yours: 5, Seq: 6, Ack: 7, Body: body(n)}
}

func ack() api.Packet { return api.Packet{Kind: api.PAck, Mine: 3, Boot: 4, Yours: 5, Ack: 7} }

func beat() api.Packet {
	return api.Packet{Kind: api.PBeat, Mine: 3, Boot: 4, Yours: 5, Ack: 7, Stamp: 8, Echo: 9, Z: complex(1.5, -2)}
}

// eachKind: a packet that may be of each kind, a Hello of both sorts.
func eachKind() []api.Packet {
	return []api.Packet{hello(), greeted(), data(2), ack(), beat()}
}

// equal tells packets apart field by field, Z by ==; an empty Body is a nil
// one (R3).
func equal(a, b api.Packet) bool {
	return a.Kind == b.Kind && a.Mine == b.Mine && a.Boot == b.Boot && a.Yours == b.Yours && a.Seq == b.Seq && a.Ack == b.Ack &&
		a.Stamp == b.Stamp && a.Echo == b.Echo && a.Z == b.Z && slices.Equal(a.Body, b.Body)
}

// sameBits: are the parts of a and b the same, bit by bit, so that -0 is not 0?
func sameBits(a, b complex128) bool {
	return math.Float64bits(real(a)) == math.Float64bits(real(b)) && math.Float64bits(imag(a)) == math.Float64bits(imag(b))
}

func clip(b []byte) []byte { return b[:min(len(b), 48)] }

func short(p api.Packet) api.Packet {
	p.Body = clip(p.Body)
	return p
}

// partIn: is x a part that a Beat may have?
func partIn(x float64) bool {
	return x-x == 0 && (x != 0 || 1/x > 0)
}

// askedForm: may a packet of a right kind be, by the chapter's words, row by row?
func askedForm(p api.Packet) bool {
	if p.Mine < 1 {
		return false
	}
	both := p.Boot >= 1 && p.Yours >= 1
	noZ := real(p.Z) == 0 && imag(p.Z) == 0
	switch p.Kind {
	case 1:
		neither := p.Boot == 0 && p.Yours == 0
		return (both || neither) && (p.Seq == 0 || p.Seq == 1) && p.Ack == 0 && p.Stamp == 0 && p.Echo == 0 && noZ && len(p.Body) == 0
	case 2:
		return both && p.Stamp == 0 && p.Echo == 0 && noZ && len(p.Body) >= 1 && len(p.Body) <= 1000
	case 3:
		return both && p.Seq == 0 && p.Stamp == 0 && p.Echo == 0 && noZ && len(p.Body) == 0
	}
	return both && p.Seq == 0 && partIn(real(p.Z)) && partIn(imag(p.Z)) && len(p.Body) == 0
}

// asked: what is wrong with a packet, by the chapter's words.
func asked(p api.Packet) api.Errno {
	if p.Kind < 1 || p.Kind > 4 {
		return api.ErrPackKind
	}
	if p.Kind == 2 && len(p.Body) >= 1001 {
		return api.ErrPackLong
	}
	if !askedForm(p) {
		return api.ErrPackForm
	}
	return api.OK
}

// written: the bytes of a packet of a right kind, whether it may be or not.
func written(p api.Packet) []byte {
	high := binary.BigEndian
	b := high.AppendUint32([]byte{byte(p.Kind)}, p.Mine)
	b = high.AppendUint32(high.AppendUint32(b, p.Boot), p.Yours)
	switch p.Kind {
	case 1:
		return append(b, byte(p.Seq))
	case 2:
		b = high.AppendUint32(high.AppendUint32(b, p.Seq), p.Ack)
		return append(b, p.Body...)
	case 3:
		return high.AppendUint32(b, p.Ack)
	}
	b = high.AppendUint32(high.AppendUint32(high.AppendUint32(b, p.Ack), p.Stamp), p.Echo)
	return high.AppendUint64(high.AppendUint64(b, math.Float64bits(real(p.Z))), math.Float64bits(imag(p.Z)))
}

func askedEncode(p api.Packet) ([]byte, api.Errno) {
	if e := asked(p); e != api.OK {
		return nil, e
	}
	return written(p), api.OK
}

// askedDecode: what bytes say, by the chapter's words.
func askedDecode(b []byte) (api.Packet, api.Errno) {
	if len(b) == 0 {
		return api.Packet{}, api.ErrPackShort
	}
	if b[0] == 0 || b[0] > 4 {
		return api.Packet{}, api.ErrPackKind
	}
	if len(b) < []int{0, 14, 22, 17, 41}[b[0]] {
		return api.Packet{}, api.ErrPackShort
	}
	if len(b) > []int{0, 14, 1021, 17, 41}[b[0]] {
		return api.Packet{}, api.ErrPackLong
	}
	p := readOut(b)
	if !askedForm(p) {
		return api.Packet{}, api.ErrPackForm
	}
	return p, api.OK
}

// readOut: what bytes of a right length say.
func readOut(b []byte) api.Packet {
	at := func(i int) uint32 { return binary.BigEndian.Uint32(b[i:]) }
	part := func(i int) float64 { return math.Float64frombits(binary.BigEndian.Uint64(b[i:])) }
	p := api.Packet{Kind: int(b[0]), Mine: at(1), Boot: at(5), Yours: at(9)}
	switch b[0] {
	case 1:
		p.Seq = uint32(b[13])
	case 2:
		p.Seq, p.Ack, p.Body = at(13), at(17), slices.Clone(b[21:])
	case 3:
		p.Ack = at(13)
	case 4:
		p.Ack, p.Stamp, p.Echo, p.Z = at(13), at(17), at(21), complex(part(25), part(33))
	}
	return p
}

func wantCheck(t *testing.T, what string, p api.Packet, e api.Errno) {
	t.Helper()
	if got := pack.Check(p); got != e {
		t.Errorf("P10.1: %s: Check of %+v (a Body of %d): %d, not %d", what, short(p), len(p.Body), got, e)
	}
}

func wantEncode(t *testing.T, what string, p api.Packet, want []byte, e api.Errno) {
	t.Helper()
	if got, gotE := pack.Encode(p); gotE != e || !slices.Equal(got, want) {
		t.Errorf("P10.1: %s: Encode of %+v (a Body of %d): %v, %d, not %v, %d", what, short(p), len(p.Body), clip(got), gotE, clip(want), e)
	}
}

func wantDecode(t *testing.T, what string, b []byte, want api.Packet, e api.Errno) {
	t.Helper()
	got, gotE := pack.Decode(b)
	if gotE != e || !equal(got, want) || !sameBits(got.Z, want.Z) {
		t.Errorf("P10.2: %s: Decode of %d bytes %v: %+v, %d, not %+v, %d", what, len(b), clip(b), short(got), gotE, short(want), e)
	}
}

// wantRight: Check and Encode let p pass, and its bytes are those of the chapter.
func wantRight(t *testing.T, what string, p api.Packet) {
	t.Helper()
	wantCheck(t, what, p, api.OK)
	wantEncode(t, what, p, written(p), api.OK)
}

// wantWrong: neither Check nor Encode lets p pass.
func wantWrong(t *testing.T, what string, p api.Packet, e api.Errno) {
	t.Helper()
	wantCheck(t, what, p, e)
	wantEncode(t, what, p, nil, e)
}

// wantRefused: Decode answers e and nothing beside it.
func wantRefused(t *testing.T, what string, b []byte, e api.Errno) {
	t.Helper()
	wantDecode(t, what, b, api.Packet{}, e)
}

// maker makes packets and bytes, the same ones for the same seed.
type maker struct{ *rand.Rand }

func newMaker(seed int64) maker { return maker{rand.New(rand.NewSource(seed))} }

func (m maker) bytes(n int) []byte {
	b := make([]byte, n)
	m.Read(b)
	return b
}

// number: any, often at an edge.
func (m maker) number() uint32 {
	switch m.Intn(4) {
	case 0:
		return []uint32{0, 1, 2, 255, 256, 1<<31 - 1, 1 << 31, most32 - 1, most32}[m.Intn(9)]
	case 1:
		return uint32(m.Intn(300))
	}
	return m.Uint32()
}

func (m maker) token() uint32 { return max(m.number(), 1) }

func (m maker) length() int {
	return []int{1, 2, 999, 1000, 1 + m.Intn(1000), 1 + m.Intn(30), 1 + m.Intn(30), 1 + m.Intn(30)}[m.Intn(8)]
}

// part: one that a Beat may have.
func (m maker) part() float64 {
	if edges := rightParts(); m.Intn(3) == 0 {
		return edges[m.Intn(len(edges))]
	}
	for {
		if x := math.Float64frombits(m.Uint64()); partIn(x) {
			return x
		}
	}
}

func (m maker) wrongPart() float64 {
	edges := wrongParts()
	return edges[m.Intn(len(edges))]
}

// right: a packet that may be.
func (m maker) right() api.Packet {
	p := api.Packet{Kind: 1 + m.Intn(4), Mine: m.token(), Boot: m.token(), Yours: m.token()}
	switch p.Kind {
	case api.PHello:
		p.Seq = uint32(m.Intn(2))
		if m.Intn(2) == 0 {
			p.Boot, p.Yours = 0, 0
		}
	case api.PData:
		p.Seq, p.Ack, p.Body = m.number(), m.number(), m.bytes(m.length())
	case api.PAck:
		p.Ack = m.number()
	case api.PBeat:
		p.Ack, p.Stamp, p.Echo, p.Z = m.number(), m.number(), m.number(), complex(m.part(), m.part())
	}
	return p
}

// changed: a packet in which one thing or more was made another one.
func (m maker) changed() api.Packet {
	p := m.right()
	for done := false; !done; done = m.Intn(2) == 0 {
		switch m.Intn(11) {
		case 0:
			p.Kind = []int{0, 1, 2, 3, 4, 5, -1, 257, 1<<32 + 1, math.MinInt}[m.Intn(10)]
		case 1:
			p.Mine = 0
		case 2:
			p.Boot = uint32(m.Intn(2))
		case 3:
			p.Yours = uint32(m.Intn(2))
		case 4:
			p.Seq = m.number()
		case 5:
			p.Ack = m.number()
		case 6:
			p.Stamp = m.number()
		case 7:
			p.Echo = m.number()
		case 8:
			p.Z = complex(m.part(), m.part())
		case 9:
			p.Z = complex(m.wrongPart(), imag(p.Z))
		case 10:
			p.Body = m.bytes([]int{0, 1, 1000, 1001, m.Intn(1100)}[m.Intn(5)])
		}
	}
	return p
}

// some: bytes of a packet, and what went wrong with them on the way.
func (m maker) some() []byte {
	b := written(m.right())
	switch m.Intn(8) {
	case 0:
		b[m.Intn(len(b))] ^= 1 << m.Intn(8)
	case 1:
		b = b[:m.Intn(len(b))]
	case 2:
		b = append(b, m.bytes(1+m.Intn(3))...)
	case 3:
		b = m.bytes(m.Intn(60))
	case 4:
		at := 1 + m.Intn(3)*4
		copy(b[at:at+4], []byte{0, 0, 0, 0})
	case 5:
		b[0] = byte(m.Intn(6))
	case 6:
		b = append([]byte{byte(1 + m.Intn(4))}, m.bytes([]int{13, 16, 21, 40, 1020, 1021}[m.Intn(6)])...)
	}
	return b
}

func rightParts() []float64 {
	return []float64{0, 1, -1, 0.1, 1.5, -2.25, math.MaxFloat64, -math.MaxFloat64, math.SmallestNonzeroFloat64, -math.SmallestNonzeroFloat64,
		2.2250738585072014e-308, -2.2250738585072014e-308, 1e300, math.Float64frombits(0x0102030405060708)}
}

// wrongParts: those that no Beat has; of what is not a number some in other bits.
func wrongParts() []float64 {
	return []float64{minusZero, math.Inf(1), math.Inf(-1), math.NaN(), math.Float64frombits(0x7ff0000000000001),
		math.Float64frombits(0xfff8000000000000), math.Float64frombits(0xffffffffffffffff), math.Float64frombits(0x7fffffffffffffff)}
}
