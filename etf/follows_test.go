package etf_test

import (
	"strings"
	"testing"

	"rookery/api"
	"rookery/etf"
	"rookery/term"
)

// wantBack: Decode of Encode is the term.
func wantBack(t *testing.T, x api.Term) string {
	t.Helper()
	b, e := etf.Encode(x)
	if e != api.OK {
		t.Errorf("P7.3: Encode of a term of kind %d: %d", x.Kind, e)
	}
	back, e := etf.Decode(b)
	if e != api.OK || !equal(back, x) || !term.Same(back, x) {
		t.Errorf("P7.3: Decode(%s): a term of kind %d, %d; they are those of one of kind %d", brief(string(b)), back.Kind, e, x.Kind)
	}
	return string(b)
}

func greatOnes() []api.Term {
	longest, _ := ofLength(131072)
	var all []byte
	for c := range 256 {
		all = append(all, byte(c))
	}
	return []api.Term{longest, ofParts(4096), nested(23, raw("x")), raw(string(all)), raw(strings.Repeat("\xff", 4095)), tuple(many(256, raw(string(all[:14])))...), list(many(15, list(many(256, name("same"))...))...)}
}

func TestP7_3TermAndBack(t *testing.T) {
	m := newMaker(73)
	for range 30000 {
		wantBack(t, m.right(6))
	}
	for _, x := range greatOnes() {
		wantBack(t, x)
	}
	for _, c := range samples() {
		wantBack(t, c.x)
	}
}

func TestP7_3BytesAndBack(t *testing.T) {
	m := newMaker(74)
	n := 0
	for range 60000 {
		s := m.spoil(askedEncode(m.right(4)))
		x, e := etf.Decode([]byte(s))
		if e != api.OK {
			continue
		}
		n++
		if term.Check(x) != api.OK {
			t.Errorf("P7.3: what Decode(%s) tells is not right", brief(s))
		}
		if back, e := etf.Encode(x); string(back) != s || e != api.OK {
			t.Errorf("P7.3: Encode of Decode(%s): %s, %d", brief(s), brief(string(back)), e)
		}
	}
	if n < 3000 {
		t.Errorf("P7.3: only %d were a term's bytes", n)
	}
}

func TestP7_3OneForm(t *testing.T) {
	m := newMaker(75)
	by := map[string]api.Term{}
	for range 20000 {
		x := m.right(2)
		s := wantBack(t, x)
		if y, ok := by[s]; ok && !term.Same(x, y) {
			t.Errorf("P7.3: two terms that differ have the bytes %s", brief(s))
		}
		by[s] = x
	}
	for _, c := range samples() {
		for _, d := range samples() {
			a, _ := etf.Encode(c.x)
			b, _ := etf.Encode(d.x)
			if (string(a) == string(b)) != term.Same(c.x, d.x) {
				t.Errorf("P7.3: the bytes %s and %s", brief(string(a)), brief(string(b)))
			}
		}
	}
}

// wantRefusedPieces: bytes cut off behind each of some, and with more behind them.
func wantRefusedPieces(t *testing.T, m maker, s string, step int) {
	t.Helper()
	for cut := 0; cut < len(s); cut += step {
		if x, e := etf.Decode([]byte(s[:cut])); e != api.ErrEtfShort || !equal(x, api.Term{}) {
			t.Errorf("P7.3: %s, cut off behind %d: %d", brief(s), cut, e)
		}
	}
	if len(s) < api.MaxEtf {
		wantRefused(t, "P7.3: more behind", s+bytesOf(byte(m.Intn(256))), api.ErrEtfMore)
	}
	wantRefused(t, "P7.3: much more behind", s+strings.Repeat("\x00", api.MaxEtf+1-len(s)), api.ErrEtfLong)
}

// What is cut off lacks a byte, wherever that is.
func TestP7_3CutOff(t *testing.T) {
	m := newMaker(76)
	for range 1000 {
		wantRefusedPieces(t, m, wantBack(t, m.right(4)), 1)
	}
	for _, c := range samples() {
		wantRefusedPieces(t, m, wantBack(t, c.x), 1)
	}
	for _, x := range greatOnes() {
		s := wantBack(t, x)
		wantRefusedPieces(t, m, s, 1+len(s)/300)
	}
}

// A field that is nil and one that is empty have one form (R3).
func TestR3Empty(t *testing.T) {
	for kind, want := range map[int]string{api.KTuple: "E\x06\x00", api.KList: "E\x07\x00", api.KBytes: "E\x08\x00"} {
		wantEncode(t, "R3: nil", api.Term{Kind: kind}, want)
		wantEncode(t, "R3: empty", api.Term{Kind: kind, B: []byte{}, L: []api.Term{}}, want)
		wantDecode(t, "R3: empty", want, api.Term{Kind: kind})
	}
	for _, c := range samples() {
		x := c.x
		if len(x.B) == 0 {
			x.B = []byte{}
		}
		if len(x.L) == 0 {
			x.L = []api.Term{}
		}
		wantEncode(t, "R3: fields that are empty", x, "E"+c.s)
	}
	for _, b := range [][]byte{nil, {}} {
		if x, e := etf.Decode(b); e != api.ErrEtfShort || !equal(x, api.Term{}) {
			t.Errorf("R3: Decode of none: %d", e)
		}
	}
}
