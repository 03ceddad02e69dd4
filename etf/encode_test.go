package etf_test

import (
	"math"
	"strings"
	"testing"

	"rookery/api"
	"rookery/etf"
	"rookery/term"
)

func TestP7_1Examples(t *testing.T) {
	wantEncode(t, "example: 0", integer(0), bytesOf(69, 1, 0))
	wantEncode(t, "example: -1", integer(-1), bytesOf(69, 1, 1))
	wantEncode(t, "example: [a, b, a]", list(name("a"), name("b"), name("a")), bytesOf(69, 7, 3, 3, 0, 1, 97, 3, 1, 1, 98, 3, 0))
}

// Every kind, alone and within others.
func TestP7_1Samples(t *testing.T) {
	for _, c := range samples() {
		wantEncode(t, "sample", c.x, "E"+c.s)
		wantEncode(t, "sample in a tuple", tuple(integer(5), c.x, list()), "E\x06\x03\x01\x0a"+c.s+"\x07\x00")
		wantEncode(t, "sample in a list", list(c.x, raw("z")), "E\x07\x02"+c.s+"\x08\x01z")
		wantEncode(t, "sample deep", nested(20, c.x), nestedBytes(20)+c.s)
	}
}

// An int's number: from 0 on even ones, below 0 odd ones; a V has another byte
// at each seventh bit.
func TestP7_1Ints(t *testing.T) {
	for shift := range 62 {
		for _, n := range []int64{1<<shift - 1, 1 << shift, 1<<shift + 1} {
			wantEncode(t, "an int", integer(n), "E\x01"+v(uint64(2*n)))
			wantEncode(t, "an int below 0", integer(-n-1), "E\x01"+v(uint64(2*n+1)))
		}
	}
	wantEncode(t, "the greatest int", integer(api.MaxInt), "E\x01\xfe\xff\xff\xff\xff\xff\xff\xff\x7f")
	wantEncode(t, "the least int", integer(api.MinInt), "E\x01\xff\xff\xff\xff\xff\xff\xff\xff\x7f")
	wantNoBytes(t, "above the greatest int", integer(api.MaxInt+1), api.ErrTermValue)
	wantNoBytes(t, "below the least int", integer(api.MinInt-1), api.ErrTermValue)
}

func TestP7_1Ids(t *testing.T) {
	for shift := range 64 {
		n := uint64(1) << shift
		for _, n := range []uint64{n, n - 1, n + 1, -n} {
			boot := uint32(n)
			if n == 0 || boot == 0 {
				continue
			}
			wantEncode(t, "a ref", ref(1+shift, boot, n), "E\x04"+bytesOf(byte(1+shift))+v(uint64(boot))+v(n))
			wantEncode(t, "a pid", pid(1+shift, boot, n), "E\x05"+bytesOf(byte(1+shift))+v(uint64(boot))+v(n))
		}
	}
	for _, x := range []api.Term{pid(0, 1, 1), pid(65, 1, 1), pid(256+1, 1, 1), pid(-1, 1, 1), pid(1, 0, 1), pid(1, 1, 0), ref(0, 1, 1), ref(1, 0, 1), ref(1, 1, 0)} {
		wantNoBytes(t, "an id that may not be", x, api.ErrTermValue)
		wantNoBytes(t, "an id that may not be", list(x), api.ErrTermValue)
	}
}

// Each part of a complex number, bit by bit.
func TestP7_1Complex(t *testing.T) {
	for shift := range 64 {
		bits := uint64(1)<<shift | 1<<52
		x := math.Float64frombits(bits)
		if math.IsInf(x, 0) {
			continue
		}
		at := 7 - shift/8
		want := []byte(strings.Repeat("\x00", 8))
		want[1] |= 16
		want[at] |= 1 << (shift % 8)
		wantEncode(t, "a bit of the real part", cx(x, 0), "E\x02"+string(want)+strings.Repeat("\x00", 8))
		wantEncode(t, "a bit of the imaginary part", cx(0, x), "E\x02"+strings.Repeat("\x00", 8)+string(want))
	}
	for _, bad := range []float64{math.Copysign(0, -1), math.NaN(), math.Inf(1), math.Inf(-1)} {
		wantNoBytes(t, "no complex number", cx(bad, 0), api.ErrTermValue)
		wantNoBytes(t, "no complex number", cx(0, bad), api.ErrTermValue)
	}
}

// Names have numbers in the order of their first coming, wherever they stand.
func TestP7_1Names(t *testing.T) {
	var l []api.Term
	want := ""
	for i := range 130 {
		l = append(l, name(numbered(i)))
		want += "\x03" + v(uint64(i)) + "\x20" + numbered(i)
	}
	for _, i := range []int{129, 128, 127, 0, 1} {
		l = append(l, tuple(name(numbered(i))))
		want += "\x06\x01\x03" + v(uint64(i))
	}
	wantEncode(t, "130 names", list(l...), "E\x07"+v(135)+want)
	wantEncode(t, "a name that begins another", list(name("aa"), name("a"), name("aaa"), name("aa")), "E\x07\x04\x03\x00\x02aa\x03\x01\x01a\x03\x02\x03aaa\x03\x00")
	wantEncode(t, "the next message", name("aaa"), "E\x03\x00\x03aaa")
	for _, s := range []string{"", "A", "_", "9", "a-", strings.Repeat("a", 33)} {
		wantNoBytes(t, "no name", name(s), api.ErrTermValue)
	}
}

func TestP7_1Limits(t *testing.T) {
	wantEncode(t, "256 elements", list(many(256, integer(1))...), "E\x07\x80\x02"+strings.Repeat("\x01\x02", 256))
	wantNoBytes(t, "257 elements", list(many(257, integer(1))...), api.ErrTermWide)
	wantEncode(t, "24 deep", nested(23, integer(0)), nestedBytes(23)+"\x01\x00")
	wantNoBytes(t, "25 deep", nested(24, integer(0)), api.ErrTermDeep)
	wantEncode(t, "4096 parts", ofParts(4096), bytesOfParts(4096, 0))
	wantNoBytes(t, "4097 parts", ofParts(4097), api.ErrTermSize)
	wantEncode(t, "4095 bytes", raw(strings.Repeat("b", 4095)), "E\x08\xff\x1f"+strings.Repeat("b", 4095))
	wantNoBytes(t, "4096 bytes", raw(strings.Repeat("b", 4096)), api.ErrTermSize)
}

func TestP7_1Long(t *testing.T) {
	for _, n := range []int{131071, 131072, 131073, 131074} {
		x, s := ofLength(n)
		if term.Check(x) != api.OK || len(s) != n {
			t.Fatalf("P7.1: what is to have %d bytes: %d, %d", n, len(s), term.Check(x))
		}
		if n <= api.MaxEtf {
			wantEncode(t, "long", x, s)
		} else {
			wantNoBytes(t, "too long", x, api.ErrEtfLong)
		}
	}
	x, _ := ofLength(131073)
	x.L[14] = list(many(len(x.L[14].L), name("a"))...)
	wantEncode(t, "as many parts, and fewer names", x, askedEncode(x))
	x, _ = ofLength(131072)
	x.L[15].N = 1
	wantNoBytes(t, "not right", x, api.ErrTermField)
	x, _ = ofLength(131073)
	x.L[15].N = 1
	wantNoBytes(t, "too long, and not right", x, api.ErrTermField)
}

// Check's error, whatever it is, and in its order.
func TestP7_1NotRight(t *testing.T) {
	for _, c := range []struct {
		x api.Term
		e api.Errno
	}{
		{api.Term{}, api.ErrTermKind}, {api.Term{Kind: -1}, api.ErrTermKind}, {api.Term{Kind: api.KVar, S: "X"}, api.ErrTermKind}, {api.Term{Kind: api.KAny}, api.ErrTermKind}, {api.Term{Kind: 256 + api.KInt}, api.ErrTermKind},
		{api.Term{Kind: api.KInt, S: "a"}, api.ErrTermField}, {api.Term{Kind: api.KAtom, S: "a", N: 1}, api.ErrTermField}, {api.Term{Kind: api.KBytes, L: many(1, integer(1))}, api.ErrTermField}, {api.Term{Kind: api.KTuple, B: []byte("b")}, api.ErrTermField},
		{list(integer(1), name("A"), api.Term{}), api.ErrTermValue}, {list(integer(1), api.Term{}, name("A")), api.ErrTermKind}, {list(many(257, api.Term{})...), api.ErrTermWide}, {nested(24, api.Term{}), api.ErrTermDeep}, {nested(23, api.Term{}), api.ErrTermKind},
	} {
		wantNoBytes(t, "not right", c.x, c.e)
	}
}

func TestP7_1Made(t *testing.T) {
	m := newMaker(71)
	for range 30000 {
		x := m.right(6)
		wantEncode(t, "worked out apart", x, askedEncode(x))
	}
	for range 3000 {
		x := m.nestedRight(5)
		field := pick(m, api.Term{Kind: m.Intn(12) - 1}, integer(m.Int63()-m.Int63()), name("no name"), pid(m.Intn(70), 1, uint64(m.Intn(2))), api.Term{Kind: 1 + m.Intn(8), N: 1, S: "a"}, raw(strings.Repeat("b", 4000+m.Intn(100))), nested(15+m.Intn(12), integer(1)))
		x.L[m.Intn(len(x.L))] = field
		if e := term.Check(x); e != api.OK {
			wantNoBytes(t, "Check's error", x, e)
		} else if _, e := etf.Encode(x); e != api.OK {
			t.Errorf("P7.1: Encode of a right term: %d", e)
		}
	}
}
