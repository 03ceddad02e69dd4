package text_test

import (
	"math"
	"math/rand"
	"slices"
	"strings"
	"testing"

	"rookery/api"
	"rookery/text"
)

func integer(n int64) api.Term { return api.Term{Kind: api.KInt, N: n} }

func cx(p, q float64) api.Term { return api.Term{Kind: api.KCx, Z: complex(p, q)} }

func name(s string) api.Term { return api.Term{Kind: api.KAtom, S: s} }

func ref(node int, boot uint32, n uint64) api.Term {
	return api.Term{Kind: api.KRef, Id: api.Id{Node: node, Boot: boot, N: n}}
}

func pid(node int, boot uint32, n uint64) api.Term {
	return api.Term{Kind: api.KPid, Id: api.Id{Node: node, Boot: boot, N: n}}
}

func tuple(l ...api.Term) api.Term { return api.Term{Kind: api.KTuple, L: l} }

func list(l ...api.Term) api.Term { return api.Term{Kind: api.KList, L: l} }

func raw(s string) api.Term { return api.Term{Kind: api.KBytes, B: []byte(s)} }

// equal tells terms apart field by field; it takes an empty list for a nil one
// (R3) and ends only for terms that do.
func equal(a, b api.Term) bool {
	return a.Kind == b.Kind && a.N == b.N && a.S == b.S && a.Id == b.Id &&
		sameBits(real(a.Z), real(b.Z)) && sameBits(imag(a.Z), imag(b.Z)) &&
		slices.Equal(a.B, b.B) && slices.EqualFunc(a.L, b.L, equal)
}

func sameBits(x, y float64) bool { return math.Float64bits(x) == math.Float64bits(y) }

// brief: as much of a text as a message needs.
func brief(s string) string {
	if len(s) > 90 {
		return s[:60] + " .. " + s[len(s)-26:]
	}
	return s
}

func wantPrint(t *testing.T, what string, x api.Term, want string, wantErr api.Errno) {
	t.Helper()
	if got, e := text.Print(x); got != want || e != wantErr {
		t.Errorf("P4.1: %s: Print: %q, %d; want %q, %d", what, brief(got), e, brief(want), wantErr)
	}
}

func wantParse(t *testing.T, what, s string, want api.Term) {
	t.Helper()
	if got, at, e := text.Parse(s); e != api.OK || at != 0 || !equal(got, want) {
		t.Errorf("P4.2: %s: Parse(%q): a term of kind %d, %d, %d; want one of kind %d, 0, 0", what, brief(s), got.Kind, at, e, want.Kind)
	}
}

// wantRefused: beside the error and its place no term is told (R2).
func wantRefused(t *testing.T, what, s string, wantAt int, wantErr api.Errno) {
	t.Helper()
	if got, at, e := text.Parse(s); e != wantErr || at != wantAt || !equal(got, api.Term{}) {
		t.Errorf("P4.2: %s: Parse(%q): a term of kind %d, %d, %d; want none, %d, %d", what, brief(s), got.Kind, at, e, wantAt, wantErr)
	}
}

func many(n int, x api.Term) []api.Term { return slices.Repeat([]api.Term{x}, n) }

// row: that many times s, with a comma between two.
func row(n int, s string) string { return strings.Join(slices.Repeat([]string{s}, n), ",") }

// nested: x in so many lists.
func nested(n int, x api.Term) api.Term {
	for range n {
		x = list(x)
	}
	return x
}

// ofParts: a list of 1 with that many parts in all, in lists that are not too wide.
func ofParts(n int) api.Term {
	out := list()
	for n--; n > 0; {
		k := min(n, 257)
		out.L = append(out.L, list(many(k-1, integer(1))...))
		n -= k
	}
	return out
}

// textOfParts: the text of ofParts, worked out apart.
func textOfParts(n int) string {
	var l []string
	for n--; n > 0; {
		k := min(n, 257)
		l = append(l, "["+row(k-1, "1")+"]")
		n -= k
	}
	return "[" + strings.Join(l, ",") + "]"
}

// ofLength: a right term whose text has just so many bytes, from 57362 on.
func ofLength(n int) (api.Term, string) {
	long := "abcdefghijklmnopqrstuvwxyzABCDE"
	x := list(many(7, list(many(256, name(long))...))...)
	s := "[" + row(7, "["+row(256, long)+"]") + `,"`
	left := n - len(s) - len(`"]`)
	x.L = append(x.L, raw(strings.Repeat("\x80", left/4)+strings.Repeat(" ", left%4)))
	return x, s + strings.Repeat(`\x80`, left/4) + strings.Repeat(" ", left%4) + `"]`
}

type sample struct {
	x api.Term
	s string
}

// samples: right terms of every kind, with their texts.
func samples() []sample {
	return []sample{
		{integer(0), "0"}, {integer(1), "1"}, {integer(-1), "-1"}, {integer(9), "9"}, {integer(10), "10"}, {integer(-5), "-5"}, {integer(-10), "-10"}, {integer(1234567890), "1234567890"},
		{integer(api.MaxInt), "4611686018427387903"}, {integer(api.MinInt), "-4611686018427387904"},
		{cx(0, 0), "#c00000000000000000000000000000000"}, {cx(1, 0), "#c3ff00000000000000000000000000000"}, {cx(0, 1), "#c00000000000000003ff0000000000000"},
		{cx(-2, 0.5), "#cc0000000000000003fe0000000000000"}, {cx(math.MaxFloat64, -math.MaxFloat64), "#c7fefffffffffffffffefffffffffffff"},
		{cx(math.SmallestNonzeroFloat64, -math.SmallestNonzeroFloat64), "#c00000000000000018000000000000001"},
		{cx(math.Float64frombits(0x0123456789abcdef), math.Float64frombits(0xfedcba9876543210)), "#c0123456789abcdeffedcba9876543210"},
		{name("a"), "a"}, {name("ok"), "ok"}, {name("z"), "z"}, {name("aZ0_9z"), "aZ0_9z"}, {name("c"), "c"}, {name(strings.Repeat("q", 32)), strings.Repeat("q", 32)},
		{ref(1, 2, 3), "#r1.2.3"}, {ref(64, 1, 1), "#r64.1.1"}, {pid(1, 2, 3), "#p1.2.3"}, {pid(10, 20, 30), "#p10.20.30"},
		{ref(64, math.MaxUint32, math.MaxUint64), "#r64.4294967295.18446744073709551615"}, {pid(64, math.MaxUint32, math.MaxUint64), "#p64.4294967295.18446744073709551615"},
		{pid(1, 1, 1<<62), "#p1.1.4611686018427387904"},
		{tuple(), "{}"}, {tuple(integer(1)), "{1}"}, {tuple(integer(1), name("a")), "{1,a}"}, {tuple(tuple(), list(), tuple(tuple())), "{{},[],{{}}}"},
		{list(), "[]"}, {list(integer(1)), "[1]"}, {list(integer(1), integer(2), integer(3)), "[1,2,3]"}, {list(list(), tuple(list(integer(-7)))), "[[],{[-7]}]"},
		{tuple(name("a"), list(integer(1))), "{a,[1]}"},
		{raw(""), `""`}, {raw("a b"), `"a b"`}, {raw(`"`), `"\""`}, {raw(`\`), `"\\"`}, {raw(`\x41`), `"\\x41"`}, {raw("\x00\x1f !~\x7f\x80\xff"), `"\x00\x1f !~\x7f\x80\xff"`}, {raw("{[,]}#"), `"{[,]}#"`},
		{tuple(integer(-5), name("ok"), raw("\x01\"")), `{-5,ok,"\x01\""}`},
		{tuple(integer(0), cx(1, 0), name("x"), ref(1, 1, 1), pid(2, 1, 9), tuple(), list(), raw("é")), `{0,#c3ff00000000000000000000000000000,x,#r1.1.1,#p2.1.9,{},[],"\xc3\xa9"}`},
	}
}

// maker makes terms and texts out of a row of numbers that is the same in each run.
type maker struct {
	*rand.Rand
	pieces []string
}

func newMaker(seed int64) maker { return maker{rand.New(rand.NewSource(seed)), pieces()} }

func pick[T any](m maker, l ...T) T { return l[m.Intn(len(l))] }

// right: a right term of at most that depth.
func (m maker) right(deep int) api.Term {
	switch kind := 1 + m.Intn(8); kind {
	case api.KInt:
		return integer(pick(m, 0, 1, -1, api.MinInt, api.MaxInt, int64(m.Intn(2000)-1000), m.Int63()>>1, -m.Int63()>>1))
	case api.KCx:
		return cx(m.part(), m.part())
	case api.KAtom:
		return name(m.name())
	case api.KRef, api.KPid:
		id := api.Id{Node: 1 + m.Intn(64), Boot: pick(m, 1, uint32(1+m.Intn(20)), math.MaxUint32), N: pick(m, 1, uint64(1+m.Intn(300)), m.Uint64()|1, math.MaxUint64)}
		return api.Term{Kind: kind, Id: id}
	case api.KTuple, api.KList:
		x := api.Term{Kind: kind}
		for n := m.Intn(5); n > 0 && deep > 1; n-- {
			x.L = append(x.L, m.right(deep-1))
		}
		return x
	}
	return raw(m.bytes())
}

// part: finite, and not -0.
func (m maker) part() float64 {
	for {
		x := pick(m, 0, 1, -2.5, math.MaxFloat64, math.Float64frombits(m.Uint64()))
		if !math.IsNaN(x) && !math.IsInf(x, 0) && (x != 0 || !math.Signbit(x)) {
			return x
		}
	}
}

func (m maker) name() string {
	const first = "abcdefghijklmnopqrstuvwxyz"
	const others = first + "ABCDEFGHIJKLMNOPQRSTUVWXYZ0123456789_"
	b := []byte{first[m.Intn(len(first))]}
	for n := pick(m, 0, m.Intn(5), m.Intn(32), 31); n > 0; n-- {
		b = append(b, others[m.Intn(len(others))])
	}
	return string(b)
}

func (m maker) bytes() string {
	b := make([]byte, m.Intn(12))
	for i := range b {
		b[i] = byte(pick(m, m.Intn(256), m.Intn(128), '"', '\\', 31, 32, 126, 127))
	}
	return string(b)
}

// spoil: s with something changed in it somewhere.
func (m maker) spoil(s string) string {
	i := m.Intn(len(s) + 1)
	j := min(len(s), i+1+m.Intn(3))
	switch m.Intn(6) {
	case 0:
		return s[:i]
	case 1:
		return s[:i] + s[j:]
	case 2:
		return s[:j] + s[i:]
	case 3:
		return s[:i] + string([]byte{byte(m.Intn(256))}) + s[i:]
	case 4:
		return s[:i] + m.piece() + s[j:]
	}
	return s[:i] + m.piece() + s[i:]
}

func (m maker) piece() string { return pick(m, m.pieces...) }

// pieces: what a text is made of, whole or not, right or not.
func pieces() []string {
	return []string{
		"{", "}", "[", "]", ",", "\"", `\`, `\x`, `\"`, `\\`, `\x7f`, `\x7e`, `\x4`, `\xA0`, "#", "#c", "#p", "#r", ".", "-", "-0", "0", "01", "1", " ", "A", "_", "a", "{}", "[]", "[1,a]", `""`,
		"4611686018427387903", "4611686018427387904", "-4611686018427387905", "99999999999999999999", "100000000000000000000", "18446744073709551615", "18446744073709551616",
		"#p0.1.1", "#r65.1.1", "#p1.4294967296.1", "#p1.1.18446744073709551616", "#p1.1.0", "#p1.1.1",
		"#c7ff00000000000000000000000000000", "#c80000000000000000000000000000000", "#c00000000000000007ff8000000000001", "#c000000000000000000000000000000", "#c0000000000000000000000000000000F",
		strings.Repeat("n", 32), strings.Repeat("n", 33), strings.Repeat("[", 22), strings.Repeat("{", 24), row(255, "1"), row(256, "[]"), row(257, "a"), `"` + strings.Repeat("b", 4000) + `"`, `"` + strings.Repeat("b", 4096) + `"`,
		textOfParts(3000), textOfParts(4090),
	}
}
