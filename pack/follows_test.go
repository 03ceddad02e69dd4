package pack_test

import (
	"slices"
	"testing"

	"rookery/api"
	"rookery/frame"
	"rookery/pack"
)

func TestP10_3DecodeOfEncode(t *testing.T) {
	m, passed := newMaker(3), 0
	for i := range 20000 {
		p := m.right()
		if i%2 == 1 {
			p = m.changed()
		}
		b, e := pack.Encode(p)
		if e != api.OK {
			continue
		}
		passed++
		if got, e := pack.Decode(b); e != api.OK || !equal(got, p) {
			t.Errorf("P10.3: Decode of Encode of %+v: %+v, %d", short(p), short(got), e)
		}
	}
	if passed < 10000 {
		t.Errorf("only %d were encoded", passed)
	}
}

func TestP10_3EncodeOfDecode(t *testing.T) {
	m, passed := newMaker(4), 0
	for range 40000 {
		b := m.some()
		p, e := pack.Decode(b)
		if e != api.OK {
			continue
		}
		passed++
		if got, e := pack.Encode(p); e != api.OK || !slices.Equal(got, b) {
			t.Errorf("P10.3: Encode of Decode of %v: %v, %d", clip(b), clip(got), e)
		}
	}
	if passed < 5000 {
		t.Errorf("only %d were decoded", passed)
	}
}

// What Decode lets pass, Check lets pass too.
func TestP10_3CheckOfDecode(t *testing.T) {
	m := newMaker(5)
	for range 20000 {
		if p, e := pack.Decode(m.some()); e == api.OK {
			wantCheck(t, "P10.3: what Decode tells", p, api.OK)
		}
	}
}

func TestP10_3FrameTakesIt(t *testing.T) {
	m, longest := newMaker(6), 0
	for range 5000 {
		b, e := pack.Encode(m.right())
		longest = max(longest, len(b))
		if e != api.OK || len(b) > 1021 {
			t.Errorf("P10.3: a packet of %d bytes: %d", len(b), e)
		}
		framed, e := frame.Pack(api.Frame{From: 1, To: 2, Boot: 1, Body: b})
		f, e2 := frame.Open(framed)
		if e != api.OK || e2 != api.OK || !slices.Equal(f.Body, b) {
			t.Errorf("P10.3: a frame does not take %d bytes: %d, %d", len(b), e, e2)
		}
	}
	if longest != 1021 {
		t.Errorf("P10.3: the longest has %d bytes", longest)
	}
}
