package etf_test

import (
	"math"
	"slices"
	"strings"
	"testing"
	"unsafe"

	"rookery/api"
	"rookery/etf"
)

// scramble writes into all memory that x leads to, its spare room included.
func scramble(x *api.Term) {
	for i := range x.B[:cap(x.B)] {
		x.B[:cap(x.B)][i] ^= 0x55
	}
	room := x.L[:cap(x.L)]
	for i := range room {
		scramble(&room[i])
		room[i].Kind, room[i].N, room[i].S = 99, -7, "spoilt"
	}
}

// roomy: x anew, with lists that have spare room in which something stands.
func roomy(x api.Term) api.Term {
	x.B = roomyBytes(x.B)
	l := make([]api.Term, len(x.L), len(x.L)+2)
	for i, e := range x.L {
		l[i] = roomy(e)
	}
	x.L = append(l, api.Term{Kind: 55, S: "spare"})[:len(l)]
	return x
}

func roomyBytes(b []byte) []byte {
	return append(append(make([]byte, 0, len(b)+8), b...), "spare"...)[:len(b)]
}

// spare: what stands in the spare room of x's lists, and of its parts'.
func spare(x api.Term) []api.Term {
	out := []api.Term{{B: x.B[len(x.B):cap(x.B)]}}
	out = append(out, x.L[len(x.L):cap(x.L)]...)
	for _, e := range x.L {
		out = append(out, spare(e)...)
	}
	return out
}

func TestR4EncodeChangesNothing(t *testing.T) {
	m := newMaker(4)
	for range 2000 {
		x := m.right(5)
		if m.Intn(4) == 0 {
			x = tuple(x, name("Wrong"))
		}
		given := roomy(x)
		etf.Encode(given)
		if !equal(given, x) || !slices.EqualFunc(spare(given), spare(roomy(x)), equal) {
			t.Errorf("R4: Encode changed what it was handed, a term of kind %d", x.Kind)
		}
	}
}

func TestR4DecodeChangesNothing(t *testing.T) {
	m := newMaker(5)
	for range 5000 {
		s := askedEncode(m.right(5))
		if m.Intn(2) == 0 {
			s = m.spoil(s)
		}
		given := roomyBytes([]byte(s))
		x, _ := etf.Decode(given)
		scramble(&x)
		if string(given) != s || !slices.Equal(given[:cap(given)], roomyBytes([]byte(s))[:cap(given)]) {
			t.Errorf("R4: Decode, or a change of what it answered, changed what it was handed: %s", brief(s))
		}
	}
}

// Answers share no memory with what was handed in: spoiling that leaves them.
func TestR4AnswersApart(t *testing.T) {
	m := newMaker(6)
	for range 3000 {
		x := m.right(5)
		s := askedEncode(x)
		given, bytes := roomy(x), roomyBytes([]byte(s))
		b, _ := etf.Encode(given)
		y, _ := etf.Decode(bytes)
		scramble(&given)
		for i := range bytes[:cap(bytes)] {
			bytes[:cap(bytes)][i] = 'q'
		}
		if string(b) != s || !equal(x, y) {
			t.Errorf("R4: an answer shares memory with what was handed in: %s", brief(s))
		}
	}
}

// Two lists of one answer share no memory, nor two answers, nor their spare room.
func TestR4AnswersSpoilt(t *testing.T) {
	one := tuple(raw("abc"), list(integer(1), integer(2), integer(3)))
	x := list(one, one, raw("abc"), list(raw("x")), list(), tuple(), raw(""), list(list(list(), list()), list(list())))
	s := askedEncode(x)
	first, _ := etf.Decode([]byte(s))
	second, _ := etf.Decode([]byte(s))
	for i := range first.L {
		scramble(&first.L[i])
		for j := i + 1; j < len(first.L); j++ {
			if !equal(first.L[j], x.L[j]) {
				t.Errorf("R4: the elements %d and %d of one answer share memory", i, j)
			}
		}
	}
	scramble(&first)
	if !equal(second, x) {
		t.Error("R4: two answers of Decode share memory")
	}
	wantDecode(t, "R4: after an answer was spoilt", s, x)
	b, _ := etf.Encode(x)
	c, _ := etf.Encode(x)
	for i := range b[:cap(b)] {
		b[:cap(b)][i] = 'q'
	}
	if string(c) != s {
		t.Error("R4: two answers of Encode share memory")
	}
	wantEncode(t, "R4: after an answer was spoilt", x, s)
}

func TestR4BytesAreNotKept(t *testing.T) {
	b := []byte(askedEncode(list(many(200, name("some_name"))...)))
	x, _ := etf.Decode(b)
	from := uintptr(unsafe.Pointer(unsafe.SliceData(b)))
	for _, p := range x.L {
		if at := uintptr(unsafe.Pointer(unsafe.StringData(p.S))); p.S != "some_name" || from <= at && at < from+uintptr(len(b)) {
			t.Fatal("R4: a name in the answer is a piece of the bytes that were handed in")
		}
	}
}

// R6: the same arguments, the same answers, whatever was asked in between.
func TestR6TheSameAgain(t *testing.T) {
	m := newMaker(7)
	for range 500 {
		x := m.right(5)
		s, _ := etf.Encode(x)
		bad := m.spoil(string(s))
		y, e := etf.Decode([]byte(bad))
		for range 3 {
			etf.Decode([]byte(m.spoil(bad)))
			etf.Encode(m.right(3))
			etf.Encode(name("Wrong"))
			wantEncode(t, "R6: again", roomy(x), string(s))
			if y2, e2 := etf.Decode([]byte(bad)); !equal(y, y2) || e != e2 {
				t.Errorf("R6: Decode(%s): %d, then %d", brief(bad), e, e2)
			}
		}
	}
}

// P1: what is great without end, or holds itself, is no harm.
func TestP1Anything(t *testing.T) {
	endless := list(api.Term{})
	endless.L[0] = endless
	doubled, broad := integer(1), integer(1)
	for range 64 {
		doubled = tuple(doubled, doubled)
	}
	for range 5 {
		broad = list(many(256, broad)...)
	}
	for e, x := range map[api.Errno]api.Term{api.ErrTermDeep: endless, api.ErrTermSize: broad, api.ErrTermKind: {Kind: math.MinInt, L: many(300, endless)}, api.ErrTermField: {Kind: api.KBytes, L: many(2, doubled)}, api.ErrTermWide: list(many(1<<20, doubled)...)} {
		wantNoBytes(t, "P1: anything", x, e)
	}
	wantNoBytes(t, "P1: parts without end", doubled, api.ErrTermDeep)
	wantNoBytes(t, "P1: depth without end", nested(1<<16-1, integer(1)), api.ErrTermDeep)
	for c := range 256 {
		for _, n := range []int{1, 2, 3, 17, 34, 300, 5000, 131071, 131072, 1 << 20} {
			wantAsked(t, strings.Repeat(bytesOf(byte(c)), n))
			wantAsked(t, "E"+strings.Repeat(bytesOf(byte(c)), n))
		}
	}
	m := newMaker(1)
	for range 20000 {
		b := make([]byte, m.Intn(40))
		m.Read(b)
		wantAsked(t, string(b))
		for i := range b {
			b[i] %= 10
		}
		wantAsked(t, "E"+string(b))
	}
}
