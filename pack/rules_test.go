package pack_test

import (
	"math"
	"slices"
	"testing"

	"rookery/api"
	"rookery/pack"
)

// roomy: b anew, with spare room in which something stands.
func roomy(b []byte) []byte {
	room := append(append(make([]byte, 0, len(b)+16), b...), "spare room, 16 b"...)
	return room[:len(b)]
}

// scramble writes into all memory of b, its spare room included.
func scramble(b []byte) {
	room := b[:cap(b)]
	for i := range room {
		room[i] ^= 0x55
	}
}

// unchanged: is what was made of b by roomy still that, in its spare room too?
func unchanged(given, b []byte) bool {
	return len(given) == len(b) && slices.Equal(given[:cap(given)], roomy(b)[:cap(given)])
}

func TestR2NothingBesideAnError(t *testing.T) {
	m := newMaker(7)
	for range 10000 {
		if b, e := pack.Encode(m.changed()); e != api.OK && len(b) > 0 {
			t.Errorf("R2: beside %d Encode answers %v", e, clip(b))
		}
		if p, e := pack.Decode(m.some()); e != api.OK && !equal(p, api.Packet{}) {
			t.Errorf("R2: beside %d Decode answers %+v", e, short(p))
		}
	}
}

func TestR3Lists(t *testing.T) {
	for _, p := range eachKind() {
		if p.Kind == api.PData {
			continue
		}
		for _, b := range [][]byte{nil, {}, make([]byte, 0, 8), roomy(nil)} {
			p.Body = b
			wantRight(t, "R3: no Body", p)
		}
	}
	for _, b := range [][]byte{nil, {}, make([]byte, 0, 8), roomy(nil)} {
		p := data(1)
		p.Body = b
		wantWrong(t, "R3: a Data with no Body", p, api.ErrPackForm)
		wantRefused(t, "R3: no bytes", b, api.ErrPackShort)
	}
}

func TestR4NothingIsChanged(t *testing.T) {
	m := newMaker(8)
	for i := range 5000 {
		b, p := m.some(), m.changed()
		if i%2 == 0 {
			p = m.right()
		}
		givenB, givenP := roomy(b), p
		givenP.Body = roomy(p.Body)
		pack.Decode(givenB)
		pack.Check(givenP)
		pack.Encode(givenP)
		if !unchanged(givenB, b) || !unchanged(givenP.Body, p.Body) {
			t.Errorf("R4: what was handed in was changed (%d)", i)
		}
	}
}

// Spoiling what was handed in leaves the answers, and the other way about.
func TestR4EncodeApart(t *testing.T) {
	m := newMaker(9)
	for i := range 3000 {
		p := m.right()
		want, given := written(p), p
		given.Body = roomy(p.Body)
		first, _ := pack.Encode(given)
		second, _ := pack.Encode(given)
		scramble(given.Body)
		if !slices.Equal(first, want) {
			t.Errorf("R4: what Encode answers shares memory with the Body (%d)", i)
		}
		given.Body = roomy(p.Body)
		scramble(first)
		if !unchanged(given.Body, p.Body) || !slices.Equal(second, want) {
			t.Errorf("R4: spoiling an answer of Encode spoils something else (%d)", i)
		}
	}
}

func TestR4DecodeApart(t *testing.T) {
	m := newMaker(10)
	for i := range 3000 {
		p := m.right()
		b := written(p)
		given := roomy(b)
		first, _ := pack.Decode(given)
		second, _ := pack.Decode(given)
		scramble(first.Body)
		if !unchanged(given, b) || !equal(second, p) {
			t.Errorf("R4: spoiling an answer of Decode spoils something else (%d)", i)
		}
		third, _ := pack.Decode(given)
		scramble(given)
		if !equal(second, p) || !equal(third, p) {
			t.Errorf("R4: what Decode answers shares memory with the bytes (%d)", i)
		}
	}
}

func TestR6TheSameAgain(t *testing.T) {
	m := newMaker(11)
	for i := range 1000 {
		p, b := m.changed(), m.some()
		laid, e := pack.Encode(p)
		read, e2 := pack.Decode(b)
		for range 3 {
			pack.Check(m.changed())
			pack.Encode(m.right())
			pack.Decode(m.some())
			again := p
			again.Body = roomy(p.Body)
			laid2, e3 := pack.Encode(again)
			read2, e4 := pack.Decode(roomy(b))
			if !slices.Equal(laid, laid2) || !equal(read, read2) || e != e3 || e2 != e4 || pack.Check(again) != e {
				t.Errorf("R6: the same was asked again, and something else was answered (%d)", i)
			}
		}
	}
}

func TestP1Anything(t *testing.T) {
	great := make([]byte, 1<<22)
	wantWrong(t, "P1: the zero packet", api.Packet{}, api.ErrPackKind)
	for kind := 1; kind <= 4; kind++ {
		p := api.Packet{Kind: kind, Mine: most32, Boot: most32, Yours: most32, Seq: most32, Ack: most32, Stamp: most32, Echo: most32,
			Z: complex(math.NaN(), math.Inf(-1)), Body: great}
		wantWrong(t, "P1: all the greatest", p, asked(p))
		great[0] = byte(kind)
		wantRefused(t, "P1: 2^22 bytes", great, api.ErrPackLong)
	}
	great[0] = 0
	wantRefused(t, "P1: 2^22 bytes of 0", great, api.ErrPackKind)
	m := newMaker(12)
	for i := range 20000 {
		b := m.bytes(m.Intn(1100))
		if len(b) > 0 && i%4 > 0 {
			b[0] = byte(m.Intn(6))
		}
		p, e := askedDecode(b)
		wantDecode(t, "P1: any bytes", b, p, e)
	}
}
