package frame_test

import (
	"math"
	"slices"
	"testing"

	"rookery/api"
	"rookery/frame"
)

// roomy: b anew, with spare room in which something stands.
func roomy(b []byte) []byte {
	room := append(append(make([]byte, 0, len(b)+16), b...), "spare room, 16 b"...)
	return room[:len(b)]
}

// scramble writes into all memory of b, its spare room included.
func scramble(b []byte) {
	room := b[:cap(b)]
	for i := range room {
		room[i] ^= 0x55
	}
}

// unchanged: is what was made of b by roomy still that, in its spare room too?
func unchanged(given, b []byte) bool {
	return len(given) == len(b) && slices.Equal(given[:cap(given)], roomy(b)[:cap(given)])
}

func TestR3Lists(t *testing.T) {
	none := api.Frame{From: 1, To: 2, Boot: 1}
	empty := api.Frame{From: 1, To: 2, Boot: 1, Body: []byte{}}
	want := headed(82, 75, 1, 2, 1, nil)
	wantCheck(t, "R3: nil", none, api.OK)
	wantCheck(t, "R3: empty", empty, api.OK)
	wantPack(t, "R3: nil", none, want, api.OK)
	wantPack(t, "R3: empty", empty, want, api.OK)
	wantRefused(t, "R3: nil", nil, api.ErrFrameShort)
	wantRefused(t, "R3: empty", []byte{}, api.ErrFrameShort)
	wantSum(t, "R3: nil", nil, frame.Sum([]byte{}))
}

func TestR4NothingIsChanged(t *testing.T) {
	m := newMaker(10)
	for i := range 2000 {
		b, f := m.some(), m.right()
		if i%4 == 0 {
			f = m.wrong()
		}
		givenB, givenF := roomy(b), f
		givenF.Body = roomy(f.Body)
		frame.Sum(givenB)
		frame.Open(givenB)
		frame.Check(givenF)
		frame.Pack(givenF)
		if !unchanged(givenB, b) || !unchanged(givenF.Body, f.Body) {
			t.Errorf("R4: what was handed in was changed (%d)", i)
		}
	}
}

// Spoiling what was handed in leaves the answers, and the other way about.
func TestR4AnswersApart(t *testing.T) {
	m := newMaker(11)
	for i := range 2000 {
		f := m.right()
		want, _ := askedPack(f)
		given := f
		given.Body = roomy(f.Body)
		first, _ := frame.Pack(given)
		second, _ := frame.Pack(given)
		scramble(given.Body)
		if !slices.Equal(first, want) {
			t.Errorf("R4: what Pack answers shares memory with the Body (%d)", i)
		}
		given.Body = roomy(f.Body)
		scramble(first)
		if !unchanged(given.Body, f.Body) || !slices.Equal(second, want) {
			t.Errorf("R4: spoiling an answer of Pack spoils something else (%d)", i)
		}
		wantApart(t, want, f)
	}
}

// wantApart: what Open answers of b, which is f, shares nothing.
func wantApart(t *testing.T, b []byte, f api.Frame) {
	t.Helper()
	given := roomy(b)
	first, _ := frame.Open(given)
	second, _ := frame.Open(given)
	scramble(first.Body)
	if !unchanged(given, b) || !equal(second, f) {
		t.Errorf("R4: spoiling an answer of Open spoils something else")
	}
	third, _ := frame.Open(given)
	scramble(given)
	if !equal(second, f) || !equal(third, f) {
		t.Errorf("R4: what Open answers shares memory with the bytes")
	}
}

func TestR6TheSameAgain(t *testing.T) {
	m := newMaker(12)
	for i := range 500 {
		f, b := m.right(), m.some()
		packed, _ := frame.Pack(f)
		opened, e := frame.Open(b)
		sum := frame.Sum(b)
		for range 3 {
			frame.Pack(m.wrong())
			frame.Open(m.some())
			packed2, _ := frame.Pack(f)
			opened2, e2 := frame.Open(roomy(b))
			if !slices.Equal(packed, packed2) || !equal(opened, opened2) || e != e2 || sum != frame.Sum(roomy(b)) {
				t.Errorf("R6: the same was asked again, and something else was answered (%d)", i)
			}
		}
	}
}

func TestP1Anything(t *testing.T) {
	great := make([]byte, 1<<22)
	wantRefused(t, "P1: 2^22 bytes", great, api.ErrFrameLong)
	wantWrong(t, "P1: a body of 2^22 bytes", api.Frame{From: 1, To: 2, Boot: 1, Body: great}, api.ErrFrameLong)
	wantWrong(t, "P1: the zero frame", api.Frame{}, api.ErrFrameNode)
	wantWrong(t, "P1: the least and the greatest", api.Frame{From: math.MinInt, To: math.MaxInt, Boot: math.MaxUint32, Body: great}, api.ErrFrameNode)
	if frame.Sum(great) == frame.Sum(great[1:]) {
		t.Error("P1: 2^22 bytes of 0, and one less, have one sum")
	}
	m := newMaker(13)
	for range 5000 {
		b := m.bytes(m.Intn(1300))
		f, e := askedOpen(b)
		wantOpen(t, "P1: any bytes", b, f, e)
	}
}
