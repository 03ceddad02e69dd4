package etf_test

import (
	"fmt"
	"math"
	"math/rand"
	"slices"
	"strings"
	"testing"

	"rookery/api"
	"rookery/etf"
)

func integer(n int64) api.Term { return api.Term{Kind: api.KInt, N: n} }

func cx(p, q float64) api.Term { return api.Term{Kind: api.KCx, Z: complex(p, q)} }

func name(s string) api.Term { return api.Term{Kind: api.KAtom, S: s} }

func ref(node int, boot uint32, n uint64) api.Term {
	return api.Term{Kind: api.KRef, Id: api.Id{Node: node, Boot: boot, N: n}}
}

func pid(node int, boot uint32, n uint64) api.Term {
	return api.Term{Kind: api.KPid, Id: api.Id{Node: node, Boot: boot, N: n}}
}

func tuple(l ...api.Term) api.Term { return api.Term{Kind: api.KTuple, L: l} }

func list(l ...api.Term) api.Term { return api.Term{Kind: api.KList, L: l} }

func raw(s string) api.Term { return api.Term{Kind: api.KBytes, B: []byte(s)} }

// equal tells terms apart field by field; it takes an empty list for a nil one
// (R3) and ends only for terms that do.
func equal(a, b api.Term) bool {
	return a.Kind == b.Kind && a.N == b.N && a.S == b.S && a.Id == b.Id &&
		sameBits(real(a.Z), real(b.Z)) && sameBits(imag(a.Z), imag(b.Z)) &&
		slices.Equal(a.B, b.B) && slices.EqualFunc(a.L, b.L, equal)
}

func sameBits(x, y float64) bool { return math.Float64bits(x) == math.Float64bits(y) }

// brief: as much of some bytes as a message needs.
func brief(s string) string {
	if len(s) > 40 {
		return fmt.Sprintf("%d .. %d (%d bytes)", []byte(s[:30]), []byte(s[len(s)-8:]), len(s))
	}
	return fmt.Sprint([]byte(s))
}

// bytesOf: numbers as bytes.
func bytesOf(l ...byte) string { return string(l) }

func wantEncode(t *testing.T, what string, x api.Term, want string) {
	t.Helper()
	if got, e := etf.Encode(x); string(got) != want || e != api.OK {
		t.Errorf("P7.1: %s: Encode: %s, %d; want %s, 0", what, brief(string(got)), e, brief(want))
	}
}

// wantNoBytes: beside the error no bytes are told (R2).
func wantNoBytes(t *testing.T, what string, x api.Term, wantErr api.Errno) {
	t.Helper()
	if got, e := etf.Encode(x); len(got) != 0 || e != wantErr {
		t.Errorf("P7.1: %s: Encode: %s, %d; want none, %d", what, brief(string(got)), e, wantErr)
	}
}

func wantDecode(t *testing.T, what, s string, want api.Term) {
	t.Helper()
	if got, e := etf.Decode([]byte(s)); e != api.OK || !equal(got, want) {
		t.Errorf("P7.2: %s: Decode(%s): a term of kind %d, %d; want one of kind %d, 0", what, brief(s), got.Kind, e, want.Kind)
	}
}

// wantRefused: beside the error no term is told (R2).
func wantRefused(t *testing.T, what, s string, wantErr api.Errno) {
	t.Helper()
	if got, e := etf.Decode([]byte(s)); e != wantErr || !equal(got, api.Term{}) {
		t.Errorf("P7.2: %s: Decode(%s): a term of kind %d, %d; want none, %d", what, brief(s), got.Kind, e, wantErr)
	}
}

type refusal struct {
	s string
	e api.Errno
}

func wantRefusals(t *testing.T, what string, l []refusal) {
	t.Helper()
	for i, c := range l {
		wantRefused(t, fmt.Sprintf("%s (%d)", what, i), c.s, c.e)
	}
}

func many(n int, x api.Term) []api.Term { return slices.Repeat([]api.Term{x}, n) }

// nested: x in so many lists.
func nested(n int, x api.Term) api.Term {
	for range n {
		x = list(x)
	}
	return x
}

// nestedBytes: the bytes of nested, without what stands innermost.
func nestedBytes(n int) string { return "E" + strings.Repeat("\x07\x01", n) }

// ofParts: a list of 1 with that many parts in all, in lists that are not too wide.
func ofParts(n int) api.Term {
	out := list()
	for n--; n > 0; {
		k := min(n, 257)
		out.L = append(out.L, list(many(k-1, integer(1))...))
		n -= k
	}
	return out
}

// bytesOfParts: the bytes of ofParts, worked out apart, with so many elements
// more told in the outermost list than there are.
func bytesOfParts(n, told int) string {
	var l []string
	for n--; n > 0; {
		k := min(n, 257)
		l = append(l, "\x07"+v(uint64(k-1))+strings.Repeat("\x01\x02", k-1))
		n -= k
	}
	return "E\x07" + v(uint64(len(l)+told)) + strings.Join(l, "")
}

// numbered: a name of 32 bytes, one of its own for each number.
func numbered(i int) string {
	digits := fmt.Sprintf("n%d", i)
	return digits + strings.Repeat("_", 32-len(digits))
}

// ofLength: a right term that has just so many bytes, about 131072: names that
// come once, in lists, and bytes behind them.
func ofLength(n int) (api.Term, string) {
	const names = 3635
	var b strings.Builder
	x := list()
	for i := range names {
		if i%256 == 0 {
			x.L = append(x.L, list())
			b.WriteString("\x07" + v(uint64(min(256, names-i))))
		}
		last := &x.L[len(x.L)-1]
		last.L = append(last.L, name(numbered(i)))
		b.WriteString("\x03" + v(uint64(i)) + "\x20" + numbered(i))
	}
	s := "E\x07" + v(uint64(len(x.L)+1)) + b.String() + "\x08"
	filler := strings.Repeat("f", n-len(s)-2)
	x.L = append(x.L, raw(filler))
	return x, s + v(uint64(len(filler))) + filler
}

type sample struct {
	x api.Term
	s string
}

// samples: right terms of every kind, with their bytes but for the first one.
func samples() []sample {
	return []sample{
		{integer(0), "\x01\x00"}, {integer(-1), "\x01\x01"}, {integer(1), "\x01\x02"}, {integer(-2), "\x01\x03"}, {integer(63), "\x01\x7e"}, {integer(-64), "\x01\x7f"}, {integer(64), "\x01\x80\x01"}, {integer(-65), "\x01\x81\x01"},
		{integer(8191), "\x01\xfe\x7f"}, {integer(-8192), "\x01\xff\x7f"}, {integer(8192), "\x01\x80\x80\x01"}, {integer(1000000), "\x01\x80\x89\x7a"}, {integer(1 << 55), "\x01\x80\x80\x80\x80\x80\x80\x80\x80\x01"},
		{integer(api.MaxInt), "\x01\xfe\xff\xff\xff\xff\xff\xff\xff\x7f"}, {integer(api.MinInt), "\x01\xff\xff\xff\xff\xff\xff\xff\xff\x7f"},
		{cx(0, 0), "\x02" + strings.Repeat("\x00", 16)}, {cx(1, 0), "\x02\x3f\xf0" + strings.Repeat("\x00", 14)}, {cx(0, 1), "\x02" + strings.Repeat("\x00", 8) + "\x3f\xf0" + strings.Repeat("\x00", 6)},
		{cx(-2, 0.5), "\x02\xc0\x00\x00\x00\x00\x00\x00\x00\x3f\xe0\x00\x00\x00\x00\x00\x00"}, {cx(math.MaxFloat64, -math.MaxFloat64), "\x02\x7f\xef\xff\xff\xff\xff\xff\xff\xff\xef\xff\xff\xff\xff\xff\xff"},
		{cx(math.SmallestNonzeroFloat64, -math.SmallestNonzeroFloat64), "\x02\x00\x00\x00\x00\x00\x00\x00\x01\x80\x00\x00\x00\x00\x00\x00\x01"},
		{cx(math.Float64frombits(0x0123456789abcdef), math.Float64frombits(0xfedcba9876543210)), "\x02\x01\x23\x45\x67\x89\xab\xcd\xef\xfe\xdc\xba\x98\x76\x54\x32\x10"},
		{name("a"), "\x03\x00\x01a"}, {name("ok"), "\x03\x00\x02ok"}, {name("aZ0_9z"), "\x03\x00\x06aZ0_9z"}, {name(strings.Repeat("q", 31)), "\x03\x00\x1f" + strings.Repeat("q", 31)}, {name(strings.Repeat("q", 32)), "\x03\x00\x20" + strings.Repeat("q", 32)},
		{ref(1, 2, 3), "\x04\x01\x02\x03"}, {ref(64, 1, 1), "\x04\x40\x01\x01"}, {pid(1, 2, 3), "\x05\x01\x02\x03"}, {pid(3, 200, 5), "\x05\x03\xc8\x01\x05"}, {pid(9, 127, 128), "\x05\x09\x7f\x80\x01"},
		{ref(64, math.MaxUint32, math.MaxUint64), "\x04\x40\xff\xff\xff\xff\x0f\xff\xff\xff\xff\xff\xff\xff\xff\xff\x01"}, {pid(64, math.MaxUint32, math.MaxUint64), "\x05\x40\xff\xff\xff\xff\x0f\xff\xff\xff\xff\xff\xff\xff\xff\xff\x01"},
		{pid(1, 1, 1<<63), "\x05\x01\x01\x80\x80\x80\x80\x80\x80\x80\x80\x80\x01"}, {pid(1, 1<<28, 1<<63-1), "\x05\x01\x80\x80\x80\x80\x01\xff\xff\xff\xff\xff\xff\xff\xff\x7f"},
		{tuple(), "\x06\x00"}, {tuple(integer(1)), "\x06\x01\x01\x02"}, {tuple(integer(1), name("a")), "\x06\x02\x01\x02\x03\x00\x01a"}, {tuple(tuple(), list(), tuple(tuple())), "\x06\x03\x06\x00\x07\x00\x06\x01\x06\x00"},
		{list(), "\x07\x00"}, {list(integer(1)), "\x07\x01\x01\x02"}, {list(integer(1), integer(2), integer(3)), "\x07\x03\x01\x02\x01\x04\x01\x06"}, {list(list(), tuple(list(integer(-7)))), "\x07\x02\x07\x00\x06\x01\x07\x01\x01\x0d"},
		{tuple(many(127, list())...), "\x06\x7f" + strings.Repeat("\x07\x00", 127)}, {tuple(many(128, list())...), "\x06\x80\x01" + strings.Repeat("\x07\x00", 128)}, {list(many(256, tuple())...), "\x07\x80\x02" + strings.Repeat("\x06\x00", 256)},
		{list(name("a"), name("b"), name("a")), "\x07\x03\x03\x00\x01a\x03\x01\x01b\x03\x00"}, {tuple(name("b"), list(name("c"), name("b")), name("a"), name("c")), "\x06\x04\x03\x00\x01b\x07\x02\x03\x01\x01c\x03\x00\x03\x02\x01a\x03\x01"},
		{tuple(name("ab"), name("a"), name("abc")), "\x06\x03\x03\x00\x02ab\x03\x01\x01a\x03\x02\x03abc"},
		{raw(""), "\x08\x00"}, {raw("hi"), "\x08\x02hi"}, {raw("\x00\xff\x80"), "\x08\x03\x00\xff\x80"}, {raw(strings.Repeat("\x80", 127)), "\x08\x7f" + strings.Repeat("\x80", 127)}, {raw(strings.Repeat("x", 300)), "\x08\xac\x02" + strings.Repeat("x", 300)},
		{tuple(integer(-5), name("ok"), raw("\x01\"")), "\x06\x03\x01\x09\x03\x00\x02ok\x08\x02\x01\""},
		{tuple(integer(0), cx(1, 0), name("x"), ref(1, 1, 1), pid(2, 1, 9), tuple(), list(), raw("é")), "\x06\x08\x01\x00\x02\x3f\xf0" + strings.Repeat("\x00", 14) + "\x03\x00\x01x\x04\x01\x01\x01\x05\x02\x01\x09\x06\x00\x07\x00\x08\x02\xc3\xa9"},
	}
}

// maker makes terms and bytes out of a row of numbers that is the same in each run.
type maker struct {
	*rand.Rand
	pieces []string
}

func newMaker(seed int64) maker { return maker{rand.New(rand.NewSource(seed)), pieces()} }

func pick[T any](m maker, l ...T) T { return l[m.Intn(len(l))] }

// right: a right term of at most that depth.
func (m maker) right(deep int) api.Term {
	switch kind := 1 + m.Intn(8); kind {
	case api.KInt:
		return integer(pick(m, 0, 1, -1, api.MinInt, api.MaxInt, int64(m.Intn(2000)-1000), m.Int63()>>(1+m.Intn(60)), -m.Int63()>>(1+m.Intn(60))))
	case api.KCx:
		return cx(m.part(), m.part())
	case api.KAtom:
		return name(m.name())
	case api.KRef, api.KPid:
		id := api.Id{Node: 1 + m.Intn(64), Boot: pick(m, 1, uint32(1+m.Intn(20)), m.Uint32()>>m.Intn(30)|1, math.MaxUint32), N: pick(m, 1, uint64(1+m.Intn(300)), m.Uint64()>>m.Intn(60)|1, math.MaxUint64)}
		return api.Term{Kind: kind, Id: id}
	case api.KTuple, api.KList:
		x := api.Term{Kind: kind}
		for n := m.Intn(6); n > 0 && deep > 1; n-- {
			x.L = append(x.L, m.right(deep-1))
		}
		return x
	}
	return raw(m.bytes())
}

// nestedRight: one that has elements, so that its parts stand within others.
func (m maker) nestedRight(deep int) api.Term {
	x := api.Term{Kind: pick(m, api.KTuple, api.KList)}
	for range 1 + m.Intn(6) {
		x.L = append(x.L, m.right(deep-1))
	}
	return x
}

// part: finite, and not -0.
func (m maker) part() float64 {
	for {
		x := pick(m, 0, 1, -2.5, math.MaxFloat64, math.Float64frombits(m.Uint64()))
		if !math.IsNaN(x) && !math.IsInf(x, 0) && (x != 0 || !math.Signbit(x)) {
			return x
		}
	}
}

// name: few short ones, so that they come again, and all others.
func (m maker) name() string {
	const first = "abcdefghijklmnopqrstuvwxyz"
	const others = first + "ABCDEFGHIJKLMNOPQRSTUVWXYZ0123456789_"
	if m.Intn(2) == 0 {
		return pick(m, "a", "b", "ab", "ok")
	}
	b := []byte{first[m.Intn(len(first))]}
	for n := pick(m, 0, m.Intn(5), m.Intn(32), 31); n > 0; n-- {
		b = append(b, others[m.Intn(len(others))])
	}
	return string(b)
}

func (m maker) bytes() string {
	b := make([]byte, pick(m, 0, m.Intn(12), m.Intn(200)))
	m.Read(b)
	return string(b)
}

// spoil: s with something changed in it somewhere.
func (m maker) spoil(s string) string {
	i := m.Intn(len(s) + 1)
	j := min(len(s), i+1+m.Intn(3))
	switch m.Intn(7) {
	case 0:
		return s[:i]
	case 1:
		return s[:i] + s[j:]
	case 2:
		return s[:j] + s[i:]
	case 3:
		return s[:i] + bytesOf(byte(m.Intn(256))) + s[i:]
	case 4:
		return s[:i] + m.piece() + s[j:]
	case 5:
		return s[:i] + bytesOf(byte(m.Intn(10))) + s[j:]
	}
	return s[:i] + m.piece() + s[i:]
}

func (m maker) piece() string { return pick(m, m.pieces...) }

// pieces: what bytes are made of, whole or not, right or not.
func pieces() []string {
	nine := strings.Repeat("\xff", 9)
	return []string{
		"\x00", "\x01", "\x02", "\x03", "\x04", "\x05", "\x06", "\x07", "\x08", "\x09", "\x0a", "E", "\x80", "\xff", "\x80\x00", "\x80\x01", "\x01\x00", "\x01\x02", "\x03\x00", "\x03\x00\x01a", "\x03\x01\x01b", "\x03\x01\x01a", "\x03\x02\x02ok", "\x03\x00\x00", "\x03\x00\x21", "\x03\x00\x01A", "\x03\x00\x02a-",
		"\x01" + v(1<<63-2), "\x01" + v(1<<63-1), "\x01" + v(1<<63), "\x01" + v(1<<63+1), "\x01" + v(math.MaxUint64), "\x01" + nine + "\x02", "\x01" + nine + "\x80", "\x01" + nine + "\x00", "\x01" + nine + "\x81\x00", nine, nine + "\x01",
		"\x02\x7f\xf0" + strings.Repeat("\x00", 14), "\x02\x80" + strings.Repeat("\x00", 15), "\x02" + strings.Repeat("\x00", 8) + "\x7f\xf8" + strings.Repeat("\x00", 5) + "\x01", "\x02" + strings.Repeat("\x00", 15), "\x02" + strings.Repeat("\x01", 16),
		"\x04\x00\x01\x01", "\x05\x41\x01\x01", "\x05\x01\x00\x01", "\x04\x01\x01\x00", "\x05\x01" + v(1<<32) + "\x01", "\x05\x01" + v(1<<32-1) + "\x01", "\x05\x40\x01" + v(math.MaxUint64), "\x04\x01\x01\x01", "\x06\x00", "\x07\x00", "\x06\x02\x01\x00\x01\x02", "\x08\x00", "\x08\x02hi",
		"\x06" + v(255) + strings.Repeat("\x01\x02", 255), "\x07" + v(256) + strings.Repeat("\x07\x00", 256), "\x07" + v(257), "\x07" + v(256), strings.Repeat("\x07\x01", 22), strings.Repeat("\x06\x01", 24), "\x08" + v(4000) + strings.Repeat("b", 4000), "\x08" + v(4095), "\x08" + v(4096), "\x08" + v(math.MaxUint64), bytesOfParts(3000, 0)[1:], bytesOfParts(4090, 0)[1:],
	}
}
