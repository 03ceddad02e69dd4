package ties_test

import (
	"fmt"
	"math"
	"regexp"
	"slices"
	"strconv"
	"strings"

	"rookery/api"
)

// The tests write terms as layer 4 does, but for complex numbers, which are
// (1,-2), and for what is no right term: names are taken as they stand.

// reader reads what the tests write.
type reader struct{ s string }

func (r *reader) sign(s string) bool {
	rest, ok := strings.CutPrefix(r.s, s)
	r.s = rest
	return ok
}

func (r *reader) list(end string) []api.Term {
	var l []api.Term
	for !r.sign(end) {
		if len(l) > 0 && !r.sign(",") {
			panic("no comma ahead of " + r.s)
		}
		l = append(l, r.term())
	}
	return l
}

var word = regexp.MustCompile(`^[^],{}()[]+`)

func (r *reader) word() string {
	s := word.FindString(r.s)
	if s == "" {
		panic("no word at the front of " + r.s)
	}
	r.s = r.s[len(s):]
	return s
}

func (r *reader) term() api.Term {
	switch {
	case r.sign("{"):
		return api.Term{Kind: api.KTuple, L: r.list("}")}
	case r.sign("["):
		return api.Term{Kind: api.KList, L: r.list("]")}
	case r.sign("("):
		l := strings.Split(r.s[:strings.Index(r.s, ")")], ",")
		r.s = r.s[strings.Index(r.s, ")")+1:]
		return cx(float(l[0]), float(l[1]))
	case strings.HasPrefix(r.s, `"`):
		q, err := strconv.QuotedPrefix(r.s)
		s, err2 := strconv.Unquote(q)
		if err != nil || err2 != nil {
			panic("no bytes: " + r.s)
		}
		r.s = r.s[len(q):]
		return api.Term{Kind: api.KBytes, B: []byte(s)}
	}
	return plainTerm(r.word())
}

func plainTerm(s string) api.Term {
	n, err := strconv.ParseInt(s, 10, 64)
	switch {
	case err == nil:
		return api.Term{Kind: api.KInt, N: n}
	case strings.HasPrefix(s, "#p"):
		return api.Term{Kind: api.KPid, Id: idOf(s[2:])}
	case strings.HasPrefix(s, "#r"):
		return api.Term{Kind: api.KRef, Id: idOf(s[2:])}
	}
	return api.Term{Kind: api.KAtom, S: s}
}

func idOf(s string) (id api.Id) {
	if _, err := fmt.Sscanf(s, "%d.%d.%d", &id.Node, &id.Boot, &id.N); err != nil {
		panic("no id: " + s)
	}
	return id
}

func float(s string) float64 {
	x, err := strconv.ParseFloat(s, 64)
	if err != nil {
		panic("no number: " + s)
	}
	return x
}

func atoi(s string) int {
	n, err := strconv.Atoi(s)
	if err != nil {
		panic("no number: " + s)
	}
	return n
}

func idText(id api.Id) string {
	return strconv.Itoa(id.Node) + "." + strconv.FormatUint(uint64(id.Boot), 10) + "." + strconv.FormatUint(id.N, 10)
}

func cx(p, q float64) api.Term { return api.Term{Kind: api.KCx, Z: complex(p, q)} }

// read: the term that a test writes.
func read(s string) api.Term {
	r := reader{s}
	t := r.term()
	if r.s != "" {
		panic("more behind the term: " + r.s)
	}
	return t
}

func readAll(l ...string) []api.Term {
	var out []api.Term
	for _, s := range l {
		out = append(out, read(s))
	}
	return out
}

// show: what read reads; odd, if a field that the kind does not name is not zero.
func show(t api.Term) string {
	var out strings.Builder
	showTo(&out, t)
	return out.String()
}

func showTo(out *strings.Builder, t api.Term) {
	bare := api.Term{Kind: t.Kind}
	switch t.Kind {
	case 0:
		out.WriteString("nothing")
	case api.KInt:
		bare.N = t.N
		fmt.Fprint(out, t.N)
	case api.KCx:
		bare.Z = t.Z
		fmt.Fprintf(out, "(%v,%v)", real(t.Z), imag(t.Z))
	case api.KAtom, api.KVar:
		bare.S = t.S
		out.WriteString(t.S)
	case api.KPid, api.KRef:
		bare.Id = t.Id
		fmt.Fprintf(out, "#%c%s", "rp"[t.Kind-api.KRef], idText(t.Id))
	case api.KTuple, api.KList:
		bare.L = t.L
		i := 2 * (t.Kind - api.KTuple)
		out.WriteByte("{}[]"[i])
		showList(out, t.L)
		out.WriteByte("{}[]"[i+1])
	case api.KBytes:
		bare.B = t.B
		fmt.Fprintf(out, "%q", t.B)
	case api.KAny:
		out.WriteByte('_')
	default:
		fmt.Fprint(out, "kind", t.Kind)
	}
	if !sameField(bare, t) {
		out.WriteString(" with odd fields")
	}
}

func showList(out *strings.Builder, l []api.Term) {
	for i, x := range l {
		if i > 0 {
			out.WriteByte(',')
		}
		showTo(out, x)
	}
}

// sameField: all fields but those of the elements.
func sameField(a, b api.Term) bool {
	return a.Kind == b.Kind && a.N == b.N && bits(a.Z) == bits(b.Z) && a.S == b.S && a.Id == b.Id && string(a.B) == string(b.B) && len(a.L) == len(b.L)
}

func bits(z complex128) [2]uint64 {
	return [2]uint64{math.Float64bits(real(z)), math.Float64bits(imag(z))}
}

// sameTerm tells terms apart field by field; an empty list is a nil one (R3).
func sameTerm(a, b api.Term) bool {
	return sameField(a, b) && slices.EqualFunc(a.L, b.L, sameTerm)
}

// brief: as much of a text as a message needs.
func brief(s string) string {
	if len(s) > 900 {
		return s[:600] + " .. " + s[len(s)-290:]
	}
	return s
}

// repeated: so many times s, with a comma between two.
func repeated(s string, n int) string {
	return strings.Join(slices.Repeat([]string{s}, n), ",")
}

// deep: s in so many brackets.
func deep(s string, n int) string {
	return strings.Repeat("[", n) + s + strings.Repeat("]", n)
}

// endless: a list that is its own element.
func endless() api.Term {
	l := make([]api.Term, 1)
	l[0] = api.Term{Kind: api.KList, L: l}
	return l[0]
}

// doubled: few lists, but 2^(n+1) - 1 parts.
func doubled(n int) api.Term {
	x := read("1")
	for range n {
		x = api.Term{Kind: api.KTuple, L: []api.Term{x, x}}
	}
	return x
}

// wrongTerms: no right terms, by the fault that layer 2 tells first.
func wrongTerms() map[api.Errno][]api.Term {
	minusZero := math.Copysign(0, -1)
	id := api.Id{Node: 1, Boot: 1, N: 1}
	out := map[api.Errno][]api.Term{}
	out[api.ErrTermDeep] = append(readAll(deep("", 25), deep("1", 24), "{a,"+deep("a", 23)+"}"), endless())
	out[api.ErrTermSize] = append(readAll("["+repeated("["+repeated("1", 255)+"]", 16)+"]"), doubled(12), api.Term{Kind: api.KBytes, B: make([]byte, 4096)}, api.Term{Kind: api.KTuple, L: []api.Term{{Kind: api.KBytes, B: make([]byte, 4000)}, {Kind: api.KBytes, B: make([]byte, 94)}}})
	out[api.ErrTermKind] = []api.Term{{}, {Kind: -1}, {Kind: api.KVar, S: "V0"}, {Kind: api.KAny}, {Kind: 11}, {Kind: math.MaxInt}, {Kind: api.KTuple, L: []api.Term{{}}}, {Kind: api.KList, L: []api.Term{read("1"), {Kind: api.KTuple, L: []api.Term{{Kind: api.KAny}}}}}}
	out[api.ErrTermField] = []api.Term{{Kind: api.KInt, S: "a"}, {Kind: api.KInt, Z: 1}, {Kind: api.KCx, N: 1}, {Kind: api.KAtom, S: "a", N: 1}, {Kind: api.KAtom, S: "a", Id: id}, {Kind: api.KRef, Id: id, B: []byte{0}}, {Kind: api.KPid, Id: id, S: "a"}, {Kind: api.KTuple, B: []byte{0}}, {Kind: api.KList, N: 1}, {Kind: api.KBytes, L: readAll("1")}}
	out[api.ErrTermValue] = append(readAll("A", "_a", "9a", "a-b", strings.Repeat("a", 33), "#p0.1.1", "#p65.1.1", "#r1.0.1", "#p1.1.0", "{1,[A]}"), cx(math.NaN(), 0), cx(0, math.Inf(1)), cx(minusZero, 0), api.Term{Kind: api.KInt, N: api.MaxInt + 1}, api.Term{Kind: api.KInt, N: api.MinInt - 1}, api.Term{Kind: api.KRef}, api.Term{Kind: api.KAtom})
	out[api.ErrTermWide] = readAll("["+repeated("1", 257)+"]", "{"+repeated("1", 257)+"}", "{a,["+repeated("x", 300)+"]}")
	return out
}

// rightTerms: of each kind, up to the limits of layer 2.
func rightTerms() []api.Term {
	out := readAll("0", "1", "-1", "4611686018427387903", "-4611686018427387904", "(0,0)", "(1,-2.5)", "a", "undefined", strings.Repeat("z", 32), "#r1.1.1", "#p64.4294967295.18446744073709551615", "{}", "[]", "{1,[a,{\"x\"}]}", `""`, `"a\xff"`,
		"["+repeated("1", 256)+"]", "{"+repeated("a", 256)+"}", deep("1", 23), deep("", 24), "["+repeated("["+repeated("1", 254)+"]", 16)+"]")
	return append(out, api.Term{Kind: api.KBytes, B: make([]byte, 4095)}, cx(-math.MaxFloat64, math.SmallestNonzeroFloat64))
}
