package text_test

import (
	"math"
	"slices"
	"strings"
	"testing"
	"unsafe"

	"rookery/api"
	"rookery/text"
)

// scramble writes into all memory that x leads to, its spare room included.
func scramble(x *api.Term) {
	for i := range x.B[:cap(x.B)] {
		x.B[:cap(x.B)][i] ^= 0x55
	}
	room := x.L[:cap(x.L)]
	for i := range room {
		scramble(&room[i])
		room[i].Kind, room[i].N, room[i].S = 99, -7, "spoilt"
	}
}

// roomy: x anew, with lists that have spare room in which something stands.
func roomy(x api.Term) api.Term {
	x.B = append(append(make([]byte, 0, len(x.B)+8), x.B...), "spare"...)[:len(x.B)]
	l := make([]api.Term, len(x.L), len(x.L)+2)
	for i, e := range x.L {
		l[i] = roomy(e)
	}
	x.L = append(l, api.Term{Kind: 55, S: "spare"})[:len(l)]
	return x
}

// spare: what stands in the spare room of x's lists, and of its parts'.
func spare(x api.Term) []api.Term {
	out := []api.Term{{B: x.B[len(x.B):cap(x.B)]}}
	out = append(out, x.L[len(x.L):cap(x.L)]...)
	for _, e := range x.L {
		out = append(out, spare(e)...)
	}
	return out
}

func TestR4NothingIsChanged(t *testing.T) {
	m := newMaker(4)
	for range 500 {
		x := m.right(5)
		given := roomy(x)
		want, _ := text.Print(x)
		wantPrint(t, "R4: spare room", given, want, api.OK)
		if !equal(given, x) || !slices.EqualFunc(spare(given), spare(roomy(x)), equal) {
			t.Errorf("R4: Print changed what it was handed: %q", brief(want))
		}
	}
}

// Two lists of one answer share no memory, nor two answers, nor their spare room.
func TestR4AnswersApart(t *testing.T) {
	s := `[{"abc",[1,2,3]},{"abc",[1,2,3]},"abc",["x"],[],{},""]`
	first, _, _ := text.Parse(s)
	second, _, _ := text.Parse(s)
	want, _, _ := text.Parse(s)
	for i := range first.L {
		scramble(&first.L[i])
		for j := i + 1; j < len(first.L); j++ {
			if !equal(first.L[j], want.L[j]) {
				t.Errorf("R4: the elements %d and %d of one answer share memory", i, j)
			}
		}
	}
	scramble(&first)
	if !equal(second, want) {
		t.Error("R4: two answers share memory")
	}
	if again, _, _ := text.Parse(s); !equal(again, want) {
		t.Error("R4: an answer shares memory with what is kept")
	}
}

func within(inner, outer string) bool {
	a, b := uintptr(unsafe.Pointer(unsafe.StringData(inner))), uintptr(unsafe.Pointer(unsafe.StringData(outer)))
	return b <= a && a < b+uintptr(len(outer))
}

func TestR4TextIsNotKept(t *testing.T) {
	long := strings.Clone("[" + row(200, "some_name") + "]")
	x, _, _ := text.Parse(long)
	for _, p := range x.L {
		if p.S != "some_name" || within(p.S, long) {
			t.Fatal("R4: a name in the answer is a piece of the text that was handed in")
		}
	}
	one := strings.Clone("name")
	if x, _, _ := text.Parse(one); within(x.S, one) {
		t.Error("R4: a name in the answer is the text that was handed in")
	}
	given := name(strings.Clone("abc"))
	if s, _ := text.Print(given); s != "abc" || within(s, given.S) {
		t.Error("R4: Print answers the name that was handed in")
	}
}

// R6: the same arguments, the same answers, whatever was asked in between.
func TestR6TheSameAgain(t *testing.T) {
	m := newMaker(6)
	for range 500 {
		x := m.right(5)
		s, _ := text.Print(x)
		bad := m.spoil(s)
		y, at, e := text.Parse(bad)
		for range 3 {
			text.Parse(m.spoil(bad))
			text.Print(m.right(3))
			if s2, e2 := text.Print(roomy(x)); s2 != s || e2 != api.OK {
				t.Errorf("R6: Print: %q, then %q", brief(s), brief(s2))
			}
			if y2, at2, e2 := text.Parse(bad); !equal(y, y2) || at != at2 || e != e2 {
				t.Errorf("R6: Parse(%q): %d, %d, then %d, %d", brief(bad), at, e, at2, e2)
			}
		}
	}
}

// P1: what is great without end, or holds itself, is no harm.
func TestP1Anything(t *testing.T) {
	endless := list(api.Term{})
	endless.L[0] = endless
	doubled, broad := integer(1), integer(1)
	for range 64 {
		doubled = tuple(doubled, doubled)
	}
	for range 5 {
		broad = list(many(256, broad)...)
	}
	for e, x := range map[api.Errno]api.Term{api.ErrTermDeep: endless, api.ErrTermSize: broad, api.ErrTermKind: {Kind: math.MinInt, L: many(300, endless)}, api.ErrTermField: {Kind: api.KBytes, L: many(2, doubled)}, api.ErrTermWide: list(many(1<<20, doubled)...)} {
		wantPrint(t, "P1: anything", x, "", e)
	}
	wantPrint(t, "P1: parts without end", doubled, "", api.ErrTermDeep)
	wantPrint(t, "P1: depth without end", nested(1<<16-1, integer(1)), "", api.ErrTermDeep)
	for c := range 256 {
		for _, n := range []int{1, 2, 3, 34, 300, 5000, 65535, 65536, 65537, 1 << 20} {
			wantAsked(t, strings.Repeat(string([]byte{byte(c)}), n))
		}
	}
	m := newMaker(1)
	for range 3000 {
		b := make([]byte, m.Intn(40))
		m.Read(b)
		wantAsked(t, string(b))
		wantAsked(t, `["`+string(b))
	}
}
