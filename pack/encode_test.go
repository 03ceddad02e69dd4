package pack_test

import (
	"math"
	"testing"

	"rookery/api"
	"rookery/pack"
)

func TestP10_1Examples(t *testing.T) {
	wantEncode(t, "the example", api.Packet{Kind: api.PHello, Mine: 1}, []byte{1, 0, 0, 0, 1, 0, 0, 0, 0, 0, 0, 0, 0, 0}, api.OK)
	wantRefused(t, "the example with Mine 0", []byte{1, 0, 0, 0, 0, 0, 0, 0, 0, 0, 0, 0, 0, 0}, api.ErrPackForm)
	wantRefused(t, "the example of no kind", []byte{5}, api.ErrPackKind)
	wantWrong(t, "the example with Mine 0", api.Packet{Kind: api.PHello}, api.ErrPackForm)
}

// Each field's bytes unlike one another, and unlike those of other fields.
func TestP10_1Order(t *testing.T) {
	ahead := []byte{0x11, 0x12, 0x13, 0x14, 0x21, 0x22, 0x23, 0x24, 0x31, 0x32, 0x33, 0x34}
	seq, ack := []byte{0x41, 0x42, 0x43, 0x44}, []byte{0x51, 0x52, 0x53, 0x54}
	stamp, echo := []byte{0x61, 0x62, 0x63, 0x64}, []byte{0x71, 0x72, 0x73, 0x74}
	all := api.Packet{Mine: 0x11121314, Boot: 0x21222324, Yours: 0x31323334}
	p := all
	p.Kind, p.Seq = api.PHello, 1
	wantBothWays(t, "a Hello", p, []byte{1}, ahead, []byte{1})
	p = all
	p.Kind, p.Seq, p.Ack, p.Body = api.PData, 0x41424344, 0x51525354, []byte{0x81, 0x82, 0x83}
	wantBothWays(t, "a Data", p, []byte{2}, ahead, seq, ack, []byte{0x81, 0x82, 0x83})
	p = all
	p.Kind, p.Ack = api.PAck, 0x51525354
	wantBothWays(t, "an Ack", p, []byte{3}, ahead, ack)
	p = all
	p.Kind, p.Ack, p.Stamp, p.Echo, p.Z = api.PBeat, 0x51525354, 0x61626364, 0x71727374, complex(1.5, -2)
	wantBothWays(t, "a Beat", p, []byte{4}, ahead, ack, stamp, echo, []byte{0x3f, 0xf8, 0, 0, 0, 0, 0, 0}, []byte{0xc0, 0, 0, 0, 0, 0, 0, 0})
}

// wantBothWays: p's bytes are pieces, one behind the other, and say p.
func wantBothWays(t *testing.T, what string, p api.Packet, pieces ...[]byte) {
	t.Helper()
	var b []byte
	for _, x := range pieces {
		b = append(b, x...)
	}
	wantEncode(t, what, p, b, api.OK)
	wantDecode(t, what, b, p, api.OK)
}

// Every byte of Z's parts where it stands, the real part's first.
func TestP10_1OrderOfParts(t *testing.T) {
	p := beat()
	p.Z = complex(-1.0000000000000002, math.Float64frombits(0x0102030405060708))
	b, e := pack.Encode(p)
	want := []byte{0xbf, 0xf0, 0, 0, 0, 0, 0, 1, 1, 2, 3, 4, 5, 6, 7, 8}
	if e != api.OK || len(b) != 41 || string(b[25:]) != string(want) {
		t.Errorf("P10.1: the bits of Z's parts: %v, %d", b, e)
	}
	wantDecode(t, "the bits of Z's parts", b, p, api.OK)
}

// Each bit of each number by itself.
func TestP10_1EachBit(t *testing.T) {
	for i := range 32 {
		bit := uint32(1) << i
		for _, p := range eachKind() {
			q := p
			q.Mine = bit
			wantBothWays(t, "Mine", q, written(q))
			q = p
			q.Boot, q.Yours = bit, 1
			wantBothWays(t, "Boot", q, written(q))
			q.Boot, q.Yours = 1, bit
			wantBothWays(t, "Yours", q, written(q))
			for _, f := range fields() {
				q = p
				f.set(&q, bit)
				if asked(q) == api.OK {
					wantBothWays(t, f.name, q, written(q))
				}
			}
		}
	}
}

func TestP10_1Lengths(t *testing.T) {
	for _, c := range []struct {
		p    api.Packet
		want int
	}{{hello(), 14}, {greeted(), 14}, {data(1), 22}, {data(1000), 1021}, {ack(), 17}, {beat(), 41}} {
		if b, e := pack.Encode(c.p); e != api.OK || len(b) != c.want {
			t.Errorf("P10.1: a packet of kind %d has %d bytes, not %d: %d", c.p.Kind, len(b), c.want, e)
		}
	}
}
