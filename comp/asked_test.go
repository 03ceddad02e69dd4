package comp_test

import (
	"fmt"
	"slices"
	"strconv"
	"strings"

	"rookery/api"
)

// What Compile must answer of a tree that is right, worked out apart from it:
// the chapter's table is kept as a text, whose words are read anew for each part;
// places are names till all instructions stand there; the last code is cut out
// of the plain one, behind which an ORet was put; and what is bound is told by
// the order of all patterns and the clauses around them.

// table: by kind. A number is that part's code, * that of all parts; Op=field>x
// an instruction whose A is the place x; x: a place.
const table = `
int    Push=term
atom   Push=term
bytes  Push=term
var    Load=slot
tuple  * Tuple=many
list   * List=many
neg    * Neg
bin    * Bin=sign
equal  1 Match=first>x Jump>end x: Fail=1 end:
send   * Send
call   * call
case   0 clauses=Pop x: Fail=2 end:
recv   wait Timer y: Peek>z clauses=Take x: Next Jump>y z: late end:
`

// signRow: as layer 18's table writes them.
const signRow = "+ - * / rem == /= < > =< >="

// builtinRow: as chapter 17 writes it.
const builtinRow = "self/0 node/0 near/0 nodes/0 spawn/2 spawn/3 link/1 unlink/1 monitor/1 demonitor/1 exit/1 exit/2 trap/1 register/2 whereis/1 claim/2 find/1 say/1 ref/0 cx/2 conj/1 len/1 elem/2 hd/1 tl/1 cons/2"

var (
	tableRows = readTable()
	signs     = strings.Fields(signRow)
	builtins  = strings.Fields(builtinRow)
)

func readTable() map[string][]string {
	out := map[string][]string{}
	for _, row := range strings.Split(strings.TrimSpace(table), "\n") {
		w := strings.Fields(row)
		out[w[0]] = w[1:]
	}
	return out
}

// opNumber: of an Op that is written without its O.
func opNumber(name string) int {
	for op := range opFields {
		if s, _ := opName(op + 1); s == name {
			return op + 1
		}
	}
	panic("no Op: " + name)
}

func has(l []string, s string) bool { return slices.Contains(l, s) }

// number: of a text in a row of texts, from 0 on; -1.
func number(row []string, s string) int { return slices.Index(row, s) }

// line: a place, or an instruction whose A is a place, if to is not empty; exit:
// it goes from a clause to the end.
type line struct {
	place string
	in    api.Ins
	to    string
	exit  bool
}

// reader: of one function.
type reader struct {
	funs   []string
	slots  []string
	bound  map[*api.Tree][]string
	places int
	out    []line
}

func callName(name string, args int) string { return name + "/" + strconv.Itoa(args) }

// asked: what Compile must answer of a right tree. In a copy each part has a place
// of its own, by which it is known.
func asked(x api.Tree) []api.Fun {
	x = copied(x)
	var funs []string
	for _, f := range x.L {
		funs = append(funs, callName(f.S, len(f.L)-1))
	}
	var out []api.Fun
	for _, f := range x.L {
		n := len(f.L) - 1
		r := &reader{funs: funs, slots: slotNames(f), bound: boundAt(f)}
		r.body(&f.L[n])
		r.op("Ret")
		lines := lastCode(r.out)
		out = append(out, api.Fun{Name: f.S, Arity: n, Slots: len(r.slots), Ins: resolved(lines)})
	}
	return out
}

// slotNames: by slot; two of them may be _, which is nobody's name.
func slotNames(f api.Tree) []string {
	var out []string
	for _, p := range f.L[:len(f.L)-1] {
		out = append(out, p.S)
	}
	for _, p := range all(&f) {
		if p.Kind == api.TVar && p.S != "_" && !has(out, p.S) {
			out = append(out, p.S)
		}
	}
	return out
}

func (r *reader) op(name string) { r.out = append(r.out, line{in: api.Ins{Op: opNumber(name)}}) }

func (r *reader) push(s string) {
	r.op("Push")
	r.top().in.T = api.Term{Kind: api.KAtom, S: s}
}

func (r *reader) top() *line { return &r.out[len(r.out)-1] }

func (r *reader) place(name string) { r.out = append(r.out, line{place: name}) }

func (r *reader) body(x *api.Tree) {
	for i := range x.L {
		if i > 0 {
			r.op("Pop")
		}
		r.code(&x.L[i])
	}
}

// code: what the table says of x.
func (r *reader) code(x *api.Tree) {
	r.places++
	id := strconv.Itoa(r.places) + "."
	for _, word := range tableRows[kindName(x.Kind)] {
		if name, ok := strings.CutSuffix(word, ":"); ok {
			r.place(id + name)
			continue
		}
		switch head, field, _ := strings.Cut(word, "="); head {
		case "0", "1":
			r.code(&x.L[head[0]-'0'])
		case "*":
			for i := range x.L {
				r.code(&x.L[i])
			}
		case "call":
			r.call(x)
		case "clauses":
			r.clauses(x, field, id)
		case "wait", "late":
			r.after(x, head)
		default:
			r.instruction(x, word, id)
		}
	}
}

func (r *reader) call(x *api.Tree) {
	name := callName(x.S, len(x.L))
	if n := number(builtins, name); n >= 0 {
		r.op("Bif")
		r.top().in.A = n + 1
		return
	}
	r.op("Call")
	r.top().in.A, r.top().in.B = number(r.funs, name), len(x.L)
}

func (r *reader) clauses(x *api.Tree, op, id string) {
	var l []*api.Tree
	for i := range x.L {
		if x.L[i].Kind == api.TClause {
			l = append(l, &x.L[i])
		}
	}
	for i, c := range l {
		next := id + "next" + strconv.Itoa(i)
		if i == len(l)-1 {
			next = id + "x"
		}
		r.op("Match")
		r.top().in.T, r.top().to = r.pattern(&c.L[0], &c.L[0]), next
		r.op(op)
		r.body(&c.L[1])
		r.op("Jump")
		r.top().to, r.top().exit = id+"end", true
		if i < len(l)-1 {
			r.place(next)
		}
	}
}

// after: what stands for a TAfter, or for none, ahead of all and behind it.
func (r *reader) after(x *api.Tree, when string) {
	last := &x.L[len(x.L)-1]
	switch there := last.Kind == api.TAfter; {
	case there && when == "wait":
		r.code(&last.L[0])
	case there:
		r.body(&last.L[1])
	case when == "wait":
		r.push("infinity")
	default:
		r.push("timeout")
		r.op("Fail")
		r.top().in.A = 3
	}
}

// instruction: written as Op=field>place.
func (r *reader) instruction(x *api.Tree, word, id string) {
	word, to, goes := strings.Cut(word, ">")
	op, field, _ := strings.Cut(word, "=")
	r.op(op)
	in := &r.top().in
	if goes {
		r.top().to = id + to
	}
	switch field {
	case "":
	case "term":
		in.T = r.pattern(x, nil)
	case "first":
		in.T = r.pattern(&x.L[0], &x.L[0])
	case "slot":
		in.A = number(r.slots, x.S)
	case "many":
		in.A = len(x.L)
	case "sign":
		in.A = 1 + number(signs, x.S)
	default:
		in.A = int(field[0] - '0')
	}
}

// pattern: x, a part of the pattern whole.
func (r *reader) pattern(x, whole *api.Tree) api.Term {
	var l []api.Term
	for i := range x.L {
		l = append(l, r.pattern(&x.L[i], whole))
	}
	switch kindName(x.Kind) {
	case "int":
		return api.Term{Kind: api.KInt, N: x.N}
	case "neg":
		return api.Term{Kind: api.KInt, N: -l[0].N}
	case "atom":
		return api.Term{Kind: api.KAtom, S: x.S}
	case "bytes":
		return api.Term{Kind: api.KBytes, B: x.B}
	case "tuple":
		return api.Term{Kind: api.KTuple, L: l}
	case "list":
		return api.Term{Kind: api.KList, L: l}
	}
	if x.S == "_" {
		return api.Term{Kind: api.KAny}
	}
	letter := "V"
	if has(r.bound[whole], x.S) {
		letter = "B"
	}
	return api.Term{Kind: api.KVar, S: fmt.Sprint(letter, number(r.slots, x.S))}
}

// met: a pattern, and the clauses (and bodies behind an after) around it.
type met struct {
	pattern *api.Tree
	around  string
}

// boundAt: of each pattern in f the names that are bound ahead of it: those of
// the patterns ahead of it whose clauses are around it too.
func boundAt(f api.Tree) map[*api.Tree][]string {
	n := len(f.L) - 1
	var l []met
	for i := range n {
		l = append(l, met{&f.L[i], "/"})
	}
	clauses := 0
	meet(&f.L[n], "/", &clauses, &l)
	out := map[*api.Tree][]string{}
	for i, m := range l {
		for _, ahead := range l[:i] {
			if !strings.HasPrefix(m.around, ahead.around) {
				continue
			}
			for _, p := range all(ahead.pattern) {
				if p.Kind == api.TVar {
					out[m.pattern] = append(out[m.pattern], p.S)
				}
			}
		}
	}
	return out
}

// meet: the patterns in x, as they are done.
func meet(x *api.Tree, around string, clauses *int, l *[]met) {
	within := func(parts ...*api.Tree) {
		*clauses++
		inner := around + strconv.Itoa(*clauses) + "/"
		if len(parts) > 1 {
			*l = append(*l, met{parts[0], inner})
		}
		meet(parts[len(parts)-1], inner, clauses, l)
	}
	switch kindName(x.Kind) {
	case "equal":
		meet(&x.L[1], around, clauses, l)
		*l = append(*l, met{&x.L[0], around})
		return
	case "clause":
		within(&x.L[0], &x.L[1])
		return
	case "recv":
		if last := &x.L[len(x.L)-1]; last.Kind == api.TAfter {
			meet(&last.L[0], around, clauses, l)
			defer within(&last.L[1])
		}
	}
	for i := range x.L {
		if x.L[i].Kind != api.TAfter {
			meet(&x.L[i], around, clauses, l)
		}
	}
}

// used: the places to which an instruction goes.
func used(l []line) []string {
	var out []string
	for _, x := range l {
		if x.place == "" && x.to != "" {
			out = append(out, x.to)
		}
	}
	return out
}

// opAt: the Op that is done at a place.
func opAt(l []line, place string) string {
	for i := slices.IndexFunc(l, func(x line) bool { return x.place == place }); i < len(l); i++ {
		if l[i].place == "" {
			name, _ := opName(l[i].in.Op)
			return name
		}
	}
	return ""
}

// lastCode: of a body's code with an ORet behind it. What goes from a clause to
// an ORet is an ORet, from the end on; an OCall with an ORet behind it is an OTail;
// and an ORet to which nothing comes is cut off.
func lastCode(l []line) []line {
	for i, x := range slices.Backward(l) {
		if x.exit && opAt(l, x.to) == "Ret" {
			l[i] = line{in: api.Ins{Op: opNumber("Ret")}}
		}
	}
	goes := map[string]bool{}
	for _, s := range used(l) {
		goes[s] = true
	}
	var out []line
	for _, x := range l {
		if x.place != "" && !goes[x.place] {
			continue
		}
		if n := len(out) - 1; x.place == "" && x.in.Op == opNumber("Ret") && n >= 0 && out[n].place == "" {
			switch out[n].in.Op {
			case opNumber("Call"):
				out[n].in.Op = opNumber("Tail")
				continue
			case opNumber("Tail"), opNumber("Ret"), opNumber("Fail"):
				continue
			}
		}
		out = append(out, x)
	}
	return out
}

// resolved: the instructions, with numbers for the places.
func resolved(l []line) []api.Ins {
	at := map[string]int{}
	n := 0
	for _, x := range l {
		if x.place != "" {
			at[x.place] = n
		} else {
			n++
		}
	}
	var out []api.Ins
	for _, x := range l {
		if x.place == "" {
			if x.to != "" {
				x.in.A = at[x.to]
			}
			out = append(out, x.in)
		}
	}
	return out
}
