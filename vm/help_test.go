package vm_test

import (
	"fmt"
	"math"
	"regexp"
	"slices"
	"strconv"
	"strings"
	"testing"

	"rookery/api"
	"rookery/code"
	"rookery/comp"
	"rookery/vm"
)

// The tests write terms as layer 4 does, but for complex numbers, which are
// (1,-2), and for the parts of patterns, which are V0, B0 and _.

// reader reads what the tests write.
type reader struct{ s string }

func (r *reader) sign(s string) bool {
	rest, ok := strings.CutPrefix(r.s, s)
	r.s = rest
	return ok
}

func (r *reader) list(end string) []api.Term {
	var l []api.Term
	for !r.sign(end) {
		if len(l) > 0 && !r.sign(",") {
			panic("no comma ahead of " + r.s)
		}
		l = append(l, r.term())
	}
	return l
}

var word = regexp.MustCompile(`^[^],{}()[]+`)

func (r *reader) word() string {
	s := word.FindString(r.s)
	if s == "" {
		panic("no word at the front of " + r.s)
	}
	r.s = r.s[len(s):]
	return s
}

func (r *reader) term() api.Term {
	switch {
	case r.sign("{"):
		return api.Term{Kind: api.KTuple, L: r.list("}")}
	case r.sign("["):
		return api.Term{Kind: api.KList, L: r.list("]")}
	case r.sign("("):
		l := strings.Split(r.s[:strings.Index(r.s, ")")], ",")
		r.s = r.s[strings.Index(r.s, ")")+1:]
		return cx(float(l[0]), float(l[1]))
	case strings.HasPrefix(r.s, `"`):
		q, err := strconv.QuotedPrefix(r.s)
		s, err2 := strconv.Unquote(q)
		if err != nil || err2 != nil {
			panic("no bytes: " + r.s)
		}
		r.s = r.s[len(q):]
		return api.Term{Kind: api.KBytes, B: []byte(s)}
	}
	return plainTerm(r.word())
}

var slotForm = regexp.MustCompile(`^[VB](0|[1-9][0-9]*)$`)

func plainTerm(s string) api.Term {
	n, err := strconv.ParseInt(s, 10, 64)
	switch {
	case err == nil:
		return api.Term{Kind: api.KInt, N: n}
	case s == "_":
		return api.Term{Kind: api.KAny}
	case slotForm.MatchString(s):
		return api.Term{Kind: api.KVar, S: s}
	case strings.HasPrefix(s, "#p"):
		return api.Term{Kind: api.KPid, Id: idOf(s[2:])}
	case strings.HasPrefix(s, "#r"):
		return api.Term{Kind: api.KRef, Id: idOf(s[2:])}
	}
	return api.Term{Kind: api.KAtom, S: s}
}

func idOf(s string) (id api.Id) {
	if _, err := fmt.Sscanf(s, "%d.%d.%d", &id.Node, &id.Boot, &id.N); err != nil {
		panic("no id: " + s)
	}
	return id
}

func float(s string) float64 {
	x, err := strconv.ParseFloat(s, 64)
	if err != nil {
		panic("no number: " + s)
	}
	return x
}

func atoi(s string) int {
	n, err := strconv.Atoi(s)
	if err != nil {
		panic("no number: " + s)
	}
	return n
}

func cx(p, q float64) api.Term { return api.Term{Kind: api.KCx, Z: complex(p, q)} }

// read: the term, or the pattern, that a test writes.
func read(s string) api.Term {
	r := reader{s}
	t := r.term()
	if r.s != "" {
		panic("more behind the term: " + r.s)
	}
	return t
}

func readAll(l ...string) []api.Term {
	var out []api.Term
	for _, s := range l {
		out = append(out, read(s))
	}
	return out
}

// show: what read reads; odd, if a field that the kind does not name is not zero.
func show(t api.Term) string {
	var out strings.Builder
	showTo(&out, t)
	return out.String()
}

func showTo(out *strings.Builder, t api.Term) {
	bare := api.Term{Kind: t.Kind}
	switch t.Kind {
	case 0:
		out.WriteString("nothing")
	case api.KInt:
		bare.N = t.N
		fmt.Fprint(out, t.N)
	case api.KCx:
		bare.Z = t.Z
		fmt.Fprintf(out, "(%v,%v)", real(t.Z), imag(t.Z))
	case api.KAtom, api.KVar:
		bare.S = t.S
		out.WriteString(t.S)
	case api.KPid, api.KRef:
		bare.Id = t.Id
		fmt.Fprintf(out, "#%c%d.%d.%d", "rp"[t.Kind-api.KRef], t.Id.Node, t.Id.Boot, t.Id.N)
	case api.KTuple, api.KList:
		bare.L = t.L
		i := 2 * (t.Kind - api.KTuple)
		out.WriteByte("{}[]"[i])
		showList(out, t.L)
		out.WriteByte("{}[]"[i+1])
	case api.KBytes:
		bare.B = t.B
		fmt.Fprintf(out, "%q", t.B)
	case api.KAny:
		out.WriteByte('_')
	default:
		fmt.Fprint(out, "kind", t.Kind)
	}
	if !sameField(bare, t) {
		out.WriteString(" with odd fields")
	}
}

func showList(out *strings.Builder, l []api.Term) {
	for i, x := range l {
		if i > 0 {
			out.WriteByte(',')
		}
		showTo(out, x)
	}
}

func showAll(l []api.Term) string {
	var out strings.Builder
	showList(&out, l)
	return out.String()
}

// sameField: all fields but those of the elements.
func sameField(a, b api.Term) bool {
	return a.Kind == b.Kind && a.N == b.N && bits(a.Z) == bits(b.Z) && a.S == b.S && a.Id == b.Id && string(a.B) == string(b.B) && len(a.L) == len(b.L)
}

func bits(z complex128) [2]uint64 {
	return [2]uint64{math.Float64bits(real(z)), math.Float64bits(imag(z))}
}

// sameTerm tells terms apart field by field; an empty list is a nil one (R3).
func sameTerm(a, b api.Term) bool {
	return sameField(a, b) && slices.EqualFunc(a.L, b.L, sameTerm)
}

func sameAsk(a, b vm.Ask) bool {
	return a.Kind == b.Kind && a.N == b.N && sameTerm(a.T, b.T) && sameTerm(a.U, b.U) && slices.EqualFunc(a.L, b.L, sameTerm)
}

// brief: as much of a text as a message needs.
func brief(s string) string {
	if len(s) > 1500 {
		return s[:1200] + " .. " + s[len(s)-290:]
	}
	return s
}

// opNames: from 1 on.
var opNames = strings.Fields("Push Load Pop Tuple List Bin Neg Match Jump Call Tail Ret Bif Send Fail Timer Peek Next Take")

var signs = strings.Fields("+ - * / rem == /= < > =< >=")

// builtins: as chapter 17 writes them, from 1 on.
var builtins = strings.Fields("self/0 node/0 near/0 nodes/0 spawn/2 spawn/3 link/1 unlink/1 monitor/1 demonitor/1 exit/1 exit/2 trap/1 register/2 whereis/1 claim/2 find/1 say/1 ref/0 cx/2 conj/1 len/1 elem/2 hd/1 tl/1 cons/2")

// numberIn: from 1 on.
func numberIn(row []string, s string) int {
	n := slices.Index(row, s) + 1
	if n == 0 {
		panic("what is " + s)
	}
	return n
}

// instruction: as a test writes it, without its place.
func instruction(s string) api.Ins {
	name, rest, _ := strings.Cut(s, " ")
	in := api.Ins{Op: numberIn(opNames, name)}
	switch name {
	case "Push":
		in.T = read(rest)
	case "Match":
		p, to, _ := strings.Cut(rest, " else ")
		in.T, in.A = read(p), atoi(to)
	case "Bin":
		in.A = numberIn(signs, rest)
	case "Call", "Tail":
		f, n, _ := strings.Cut(rest, "/")
		in.A, in.B = atoi(f), atoi(n)
	case "Bif":
		in.A = numberIn(builtins, rest)
	case "Peek":
		in.A = atoi(strings.TrimPrefix(rest, "else "))
	case "Load", "Tuple", "List", "Jump", "Fail":
		in.A = atoi(rest)
	default:
		if rest != "" {
			panic("what is " + s)
		}
	}
	return in
}

var placeForm = regexp.MustCompile(`<[^<>]*>`)

// instructions: with "; " between two. A place is written <x>: and used as <x>.
func instructions(s string) []api.Ins {
	at := map[string]string{}
	var items []string
	for _, item := range strings.Split(s, "; ") {
		if name, ok := strings.CutSuffix(item, ">:"); ok {
			at[name+">"] = strconv.Itoa(len(items))
		} else {
			items = append(items, item)
		}
	}
	var out []api.Ins
	for _, item := range items {
		out = append(out, instruction(placeForm.ReplaceAllStringFunc(item, func(name string) string { return at[name] })))
	}
	return out
}

// prog: functions f0, f1 and so on, each written as "2(3): .." (its Arity, its
// Slots), or, if both are 0, as its instructions alone.
func prog(l ...string) []api.Fun {
	var out []api.Fun
	for i, s := range l {
		f := api.Fun{Name: "f" + strconv.Itoa(i)}
		if head, rest, ok := strings.Cut(s, "): "); ok && !strings.Contains(head, ";") && !strings.Contains(head, " ") {
			arity, slots, _ := strings.Cut(head, "(")
			f.Arity, f.Slots, s = atoi(arity), atoi(slots), rest
		}
		f.Ins = instructions(s)
		out = append(out, f)
	}
	return out
}

// source: the functions of a text, and the number of its main.
func source(t testing.TB, s string) ([]api.Fun, int) {
	t.Helper()
	l, at, e := comp.Source(s)
	if e != api.OK {
		t.Fatalf("P19.1: Source(%q): %d, %d", s, at, e)
	}
	return l, code.Find(l, "main", 0)
}

func showIns(in api.Ins) string {
	out := fmt.Sprint("Op", in.Op)
	if in.Op > 0 && in.Op <= len(opNames) {
		out = opNames[in.Op-1]
	}
	if in.T.Kind != 0 {
		out += " " + show(in.T)
	}
	if in.A != 0 || in.B != 0 {
		out += fmt.Sprintf(" %d/%d", in.A, in.B)
	}
	return out
}

func showFuns(l []api.Fun) string {
	var out []string
	for _, f := range l {
		s := fmt.Sprintf("%s/%d(%d):", f.Name, f.Arity, f.Slots)
		for i, in := range f.Ins {
			s += fmt.Sprintf(" %d %s;", i, showIns(in))
		}
		out = append(out, s)
	}
	return brief(strings.Join(out, " | "))
}

// askText: as the tests write it.
func askText(a vm.Ask) string {
	var out string
	named := vm.Ask{Kind: a.Kind}
	switch a.Kind {
	case 0:
		out = "nothing"
	case vm.AskTurn:
		out = "turn"
	case vm.AskCall:
		named.N, named.L = a.N, a.L
		out = fmt.Sprint("call ", a.N)
		if a.N > 0 && a.N <= len(builtins) {
			out = "call " + builtins[a.N-1]
		}
		out += "(" + showAll(a.L) + ")"
	case vm.AskSend:
		named.T, named.U = a.T, a.U
		out = "send " + show(a.T) + " ! " + show(a.U)
	case vm.AskPeek:
		out = "peek"
	case vm.AskEnd, vm.AskFail, vm.AskTimer, vm.AskNext, vm.AskTake:
		named.T = a.T
		out = strings.Fields("- end fail - - timer - next take")[a.Kind-1] + " " + show(a.T)
	default:
		out = fmt.Sprint("kind ", a.Kind)
	}
	if !sameAsk(named, a) {
		out += " with odd fields"
	}
	return out
}

// repeated: so many times s, with a comma between two.
func repeated(s string, n int) string {
	return strings.Join(slices.Repeat([]string{s}, n), ",")
}

// deep: s in so many brackets.
func deep(s string, n int) string {
	return strings.Repeat("[", n) + s + strings.Repeat("]", n)
}

// wrongTerms: no right terms, by each of layer 2's errors.
func wrongTerms() []api.Term {
	own := api.Term{Kind: api.KList, L: make([]api.Term, 1)}
	own.L[0] = own
	minusZero := math.Copysign(0, -1)
	return []api.Term{
		{}, {Kind: -1}, read("_"), read("V0"), {Kind: 11}, {Kind: api.KInt, N: api.MaxInt + 1}, {Kind: api.KInt, N: api.MinInt - 1}, {Kind: api.KInt, S: "a"}, cx(math.NaN(), 0), cx(0, math.Inf(1)), cx(minusZero, 0),
		read("A"), {Kind: api.KAtom}, {Kind: api.KAtom, S: strings.Repeat("a", 33)}, {Kind: api.KAtom, S: "a", N: 1}, {Kind: api.KPid}, read("#p65.1.1"), read("#r1.0.1"), read("#p1.1.0"),
		read("[" + repeated("1", 257) + "]"), read("{" + repeated("1", 257) + "}"), read(deep("", 25)), read(deep("1", 24)), {Kind: api.KBytes, B: make([]byte, 4096)}, read("[" + repeated("["+repeated("1", 255)+"]", 16) + "]"), own,
		read("{1,[V0]}"), read("{a,_}"), {Kind: api.KTuple, L: []api.Term{{}}}, {Kind: api.KBytes, L: readAll("1")},
	}
}

// rightTerms: of each kind, up to the limits of layer 2.
func rightTerms() []api.Term {
	out := readAll("0", "1", "-1", "4611686018427387903", "-4611686018427387904", "(0,0)", "(1,-2.5)", "a", "undefined", strings.Repeat("z", 32), "#r1.1.1", "#p64.4294967295.18446744073709551615", "{}", "[]", "{1,[a,{\"x\"}]}", `""`, `"a\xff"`,
		"["+repeated("1", 256)+"]", "{"+repeated("a", 256)+"}", deep("1", 23), deep("", 24), "["+repeated("["+repeated("1", 254)+"]", 16)+"]")
	return append(out, api.Term{Kind: api.KBytes, B: make([]byte, 4095)}, cx(-math.MaxFloat64, math.SmallestNonzeroFloat64))
}

func itoa(n int) string { return strconv.Itoa(n) }
