package text_test

import (
	"fmt"
	"math"
	"strings"
	"testing"

	"rookery/api"
	"rookery/term"
	"rookery/text"
)

func TestP4_1Samples(t *testing.T) {
	for _, c := range samples() {
		wantPrint(t, c.s, c.x, c.s, api.OK)
	}
}

func TestP4_1EveryByte(t *testing.T) {
	for c := range 256 {
		want := `"` + string([]byte{byte(c)}) + `"`
		switch {
		case c == '"':
			want = `"\""`
		case c == '\\':
			want = `"\\"`
		case c < 32 || c > 126:
			want = fmt.Sprintf(`"\x%02x"`, c)
		}
		wantPrint(t, fmt.Sprint("byte ", c), raw(string([]byte{byte(c)})), want, api.OK)
	}
}

func TestP4_1Bits(t *testing.T) {
	m := newMaker(41)
	for range 2000 {
		p, q := m.part(), m.part()
		wantPrint(t, "bits", cx(p, q), fmt.Sprintf("#c%016x%016x", math.Float64bits(p), math.Float64bits(q)), api.OK)
	}
}

func TestP4_1CheckFirst(t *testing.T) {
	tooLong := tuple(many(15, list(many(255, name(strings.Repeat("a", 32)))...))...)
	for _, c := range []struct {
		what string
		x    api.Term
		e    api.Errno
	}{
		{"depth 25", nested(24, integer(1)), api.ErrTermDeep},
		{"size 4097", ofParts(4097), api.ErrTermSize},
		{"4096 bytes", raw(strings.Repeat("a", 4096)), api.ErrTermSize},
		{"no kind", api.Term{}, api.ErrTermKind},
		{"a variable", api.Term{Kind: api.KVar, S: "X"}, api.ErrTermKind},
		{"a field", api.Term{Kind: api.KInt, S: "x"}, api.ErrTermField},
		{"no int", integer(api.MaxInt + 1), api.ErrTermValue},
		{"no int", integer(api.MinInt - 1), api.ErrTermValue},
		{"no complex number", cx(math.NaN(), 0), api.ErrTermValue},
		{"no complex number", cx(0, math.Inf(-1)), api.ErrTermValue},
		{"no complex number", cx(math.Copysign(0, -1), 0), api.ErrTermValue},
		{"no name", name("A"), api.ErrTermValue},
		{"no name", name(strings.Repeat("a", 33)), api.ErrTermValue},
		{"no id", pid(65, 1, 1), api.ErrTermValue},
		{"no id", ref(1, 0, 1), api.ErrTermValue},
		{"257 elements", list(many(257, integer(1))...), api.ErrTermWide},
		{"within", tuple(integer(1), list(name("A"))), api.ErrTermValue},
		{"too long a text, and a part that is not right", tuple(tooLong, name("A")), api.ErrTermValue},
	} {
		wantPrint(t, c.what, c.x, "", c.e)
		if e := term.Check(c.x); e != c.e {
			t.Errorf("P4.1: %s: Check tells %d, not %d", c.what, e, c.e)
		}
	}
	wantPrint(t, "too long a text alone", tuple(tooLong), "", api.ErrTextLong)
}

func TestP4_1Edges(t *testing.T) {
	wantPrint(t, "depth 24", nested(23, integer(1)), strings.Repeat("[", 23)+"1"+strings.Repeat("]", 23), api.OK)
	wantPrint(t, "size 4096", ofParts(4096), textOfParts(4096), api.OK)
	wantPrint(t, "4095 bytes", raw(strings.Repeat("\x00", 4095)), `"`+strings.Repeat(`\x00`, 4095)+`"`, api.OK)
	wantPrint(t, "256 elements", tuple(many(256, integer(-1))...), "{"+row(256, "-1")+"}", api.OK)
}

func TestP4_1Length(t *testing.T) {
	for n := 65530; n <= 65536; n++ {
		x, s := ofLength(n)
		if len(s) != n {
			t.Fatalf("the text of the test has %d bytes, not %d", len(s), n)
		}
		wantPrint(t, fmt.Sprint("bytes: ", n), x, s, api.OK)
	}
	for n := 65537; n <= 65545; n++ {
		x, _ := ofLength(n)
		if e := term.Check(x); e != api.OK {
			t.Fatalf("the term of the test is not right: %d", e)
		}
		wantPrint(t, fmt.Sprint("bytes: ", n), x, "", api.ErrTextLong)
	}
	wantPrint(t, "the longest ids", ofIds(), "", api.ErrTextLong)
}

// ofIds: about the longest text that a right term has.
func ofIds() api.Term {
	return list(many(15, list(many(256, pid(64, math.MaxUint32, math.MaxUint64))...))...)
}

// Print of a term is what its parts' texts make up.
func TestP4_1Made(t *testing.T) {
	m := newMaker(411)
	for range 3000 {
		x := m.right(5)
		if x.Kind != api.KTuple && x.Kind != api.KList {
			continue
		}
		var l []string
		for _, p := range x.L {
			s, _ := text.Print(p)
			l = append(l, s)
		}
		want := strings.Join(l, ",")
		if x.Kind == api.KTuple {
			want = "{" + want + "}"
		} else {
			want = "[" + want + "]"
		}
		wantPrint(t, "made", x, want, api.OK)
	}
}
