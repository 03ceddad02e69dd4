package vm_test

import (
	"fmt"
	"maps"
	"math"
	"slices"
	"strings"

	"rookery/api"
	"rookery/check"
	"rookery/code"
	"rookery/match"
	"rookery/num"
	"rookery/term"
	"rookery/vm"
)

// What a process must do, worked out apart from it: what each Op takes, whether
// it counts for a turn, and what it asks stand in a text, whose words are
// looked up for each instruction; frames are linked to one another, and none is ever
// changed; and patterns are gone through part by part, and what stands for a name
// is held against each other at the end.

// table: by Op: what it takes; "turn", if it counts, "back", if it does where its
// A is not above; what it asks, and in which fields what it took stands then.
const table = `
Push   0     -     -
Load   0     -     -
Pop    1     -     -
Tuple  A     -     -
List   A     -     -
Bin    2     -     -
Neg    1     -     -
Match  1     back  -
Jump   0     back  -
Call   B     turn  -
Tail   B     turn  -
Ret    1     -     -
Bif    args  turn  -
Send   2     -     5 T U
Fail   1     -     -
Timer  1     -     6 T
Peek   0     -     7
Next   1     -     8 T
Take   1     -     9 T
`

// answers: to each ask, from 1 on, those that it takes.
const answers = `
turn:
end:
fail:
call: give fail
send: pass fail
timer: pass fail
peek: give pass fail
next: pass fail
take: pass fail
`

// signWords: what each sign that compares holds of: below (-), same (0), above (+).
const signWords = " ==:0 /=:-+ <:- >:+ =<:-0 >=:0+ "

// reasonWords: of num's errors.
var reasonWords = map[api.Errno]string{api.ErrNumKind: "badarg", api.ErrNumZero: "zero", api.ErrNumRange: "range"}

// failWords: of OFail's A, from 1 on.
var failWords = strings.Fields("badmatch case_clause timeout")

var (
	tableRows  = rows(table)
	answerRows = rows(answers)
)

// rows: the words of each line.
func rows(s string) (out [][]string) {
	for _, line := range strings.Split(strings.TrimSpace(s), "\n") {
		out = append(out, strings.Fields(line))
	}
	return out
}

// takesAnswer: does an ask of that kind take that answer?
func takesAnswer(kind int, answer string) bool {
	return kind >= 1 && kind <= len(answerRows) && slices.Contains(answerRows[kind-1], answer)
}

// place: a frame, and the one ahead of it.
type place struct {
	fun, at int
	slots   map[int]api.Term
	stack   []api.Term
	ahead   *place
}

// asked: a process that is worked out apart.
type asked struct {
	funs    []api.Fun
	heights [][]int
	top     *place
	counted int
	ask     vm.Ask
	ops     [20]int // how many of each Op were done
}

func newAsked(l []api.Fun, fun int, args []api.Term) (*asked, api.Errno) {
	_, _, e := code.Check(l)
	if e != api.OK || fun < 0 || fun > len(l)-1 || len(args) < l[fun].Arity || len(args) > l[fun].Arity {
		return nil, api.ErrVmFun
	}
	for _, x := range args {
		if term.Check(x) != api.OK {
			return nil, api.ErrVmFun
		}
	}
	m := &asked{funs: l}
	for i := range l {
		m.heights = append(m.heights, code.Heights(l, i))
	}
	m.top = m.newPlace(fun, args, nil)
	return m, api.OK
}

func (m *asked) newPlace(fun int, args []api.Term, ahead *place) *place {
	slots := map[int]api.Term{}
	for i := range m.funs[fun].Slots {
		slots[i] = read("undefined")
		if i < len(args) {
			slots[i] = args[i]
		}
	}
	return &place{fun: fun, slots: slots, ahead: ahead}
}

func (m *asked) Depth() int {
	n := 0
	for f := m.top; f != nil; f = f.ahead {
		n++
	}
	return n
}

func (m *asked) Run() vm.Ask {
	if m.ask.Kind == vm.AskTurn {
		m.ask, m.counted = vm.Ask{}, 0
	}
	for m.ask.Kind == 0 {
		m.step()
	}
	return m.ask
}

func (m *asked) end(kind int, t api.Term) {
	m.ask, m.top = vm.Ask{Kind: kind, T: t}, nil
}

func (m *asked) fail(word string) { m.end(vm.AskFail, read(word)) }

// step: the next instruction, or an ask for a turn ahead of it.
func (m *asked) step() {
	f := *m.top
	in := m.funs[f.fun].Ins[f.at]
	row := tableRows[in.Op-1]
	if h := m.heights[f.fun][f.at]; h != len(f.stack) {
		panic(fmt.Sprintf("P18.1: %s: %d values on the stack ahead of %d; the height is %d", showFuns(m.funs), len(f.stack), f.at, h))
	}
	if row[2] == "turn" || row[2] == "back" && in.A <= f.at {
		if m.counted == 40 {
			m.ask = vm.Ask{Kind: vm.AskTurn}
			return
		}
		m.counted++
	}
	m.ops[in.Op]++
	n := len(f.stack) - map[string]int{"0": 0, "1": 1, "2": 2, "A": in.A, "B": in.B, "args": check.Arity(in.A)}[row[1]]
	took := f.stack[n:]
	f.stack = slices.Clip(f.stack[:n])
	f.at++
	m.top = &f
	if row[3] != "-" {
		m.asks(row[3:], took)
		return
	}
	m.does(in, took)
}

func (m *asked) asks(words []string, took []api.Term) {
	m.ask.Kind = atoi(words[0])
	for i, field := range words[1:] {
		*map[string]*api.Term{"T": &m.ask.T, "U": &m.ask.U}[field] = took[i]
	}
}

func (m *asked) put(l ...api.Term) {
	f := *m.top
	f.stack = slices.Concat(f.stack, l)
	m.top = &f
}

func (m *asked) goTo(at int) {
	f := *m.top
	f.at = at
	m.top = &f
}

// made: a term that is made of others is put, if it is right.
func (m *asked) made(kind int, l []api.Term) {
	if x := (api.Term{Kind: kind, L: slices.Clone(l)}); term.Check(x) == api.OK {
		m.put(x)
		return
	}
	m.fail("system_limit")
}

func (m *asked) number(t api.Term, e api.Errno) {
	if e != api.OK {
		m.fail(reasonWords[e])
		return
	}
	m.put(t)
}

func (m *asked) does(in api.Ins, took []api.Term) {
	switch opNames[in.Op-1] {
	case "Push":
		m.put(in.T)
	case "Load":
		m.put(m.top.slots[in.A])
	case "Tuple":
		m.made(api.KTuple, took)
	case "List":
		m.made(api.KList, took)
	case "Bin":
		m.sign(signs[in.A-1], in.A, took[0], took[1])
	case "Neg":
		m.number(num.One(api.Neg, took[0]))
	case "Match":
		m.match(in, took[0])
	case "Jump":
		m.goTo(in.A)
	case "Call":
		if m.Depth() > 99 {
			m.fail("system_limit")
			return
		}
		m.top = m.newPlace(in.A, took, m.top)
	case "Tail":
		m.top = m.newPlace(in.A, took, m.top.ahead)
	case "Ret":
		if m.top = m.top.ahead; m.top == nil {
			m.end(vm.AskEnd, took[0])
			return
		}
		m.put(took[0])
	case "Bif":
		m.builtin(in.A, took)
	case "Fail":
		reason := api.Term{Kind: api.KTuple, L: []api.Term{read(failWords[in.A-1]), took[0]}}
		if term.Check(reason) != api.OK {
			reason = read("system_limit")
		}
		m.end(vm.AskFail, reason)
	}
}

func (m *asked) sign(sign string, n int, a, b api.Term) {
	_, rest, compares := strings.Cut(signWords, " "+sign+":")
	if !compares {
		m.number(num.Do(n, a, b))
		return
	}
	holds, _, _ := strings.Cut(rest, " ")
	c, e := term.Cmp(a, b)
	if e != api.OK {
		panic("a value that is not right: " + show(a) + " or " + show(b))
	}
	m.put(read(fmt.Sprint(strings.Contains(holds, "-0+"[c+1:c+2]))))
}

// met: what stands for the slots' V, if t fits p.
func met(p, t api.Term, slots map[int]api.Term) (map[int]api.Term, bool) {
	all := map[string][]api.Term{}
	left := []api.Term{p, t}
	for len(left) > 0 {
		p, t := left[0], left[1]
		left = left[2:]
		switch {
		case p.Kind == api.KAny:
		case p.Kind == api.KVar:
			all[p.S] = append(all[p.S], t)
		case p.Kind != t.Kind || len(p.L) != len(t.L):
			return nil, false
		case p.Kind == api.KTuple || p.Kind == api.KList:
			for i := range p.L {
				left = append(left, p.L[i], t.L[i])
			}
		case !sameTerm(p, t):
			return nil, false
		}
	}
	out := map[int]api.Term{}
	for name, l := range all {
		n := atoi(name[1:])
		if name[0] == 'B' {
			l = append(l, slots[n])
		} else {
			out[n] = l[0]
		}
		for _, x := range l {
			if !sameTerm(x, l[0]) {
				return nil, false
			}
		}
	}
	return out, true
}

// layer5: the same by layer 5, where there are not too many names.
func layer5(p, t api.Term, slots map[int]api.Term) (fits, known bool) {
	var l []api.Bind
	for _, name := range match.Vars(p) {
		if name[0] == 'B' {
			l = append(l, api.Bind{Name: name, T: slots[atoi(name[1:])]})
		}
	}
	_, fits, e := match.Match(p, t, l)
	return fits, e == api.OK
}

func (m *asked) match(in api.Ins, t api.Term) {
	m.put(t)
	new, fits := met(in.T, t, m.top.slots)
	if by5, known := layer5(in.T, t, m.top.slots); known && by5 != fits {
		panic("P5.2: " + show(t) + " and " + show(in.T))
	}
	if !fits {
		m.goTo(in.A)
		return
	}
	f := *m.top
	f.slots = maps.Clone(f.slots)
	maps.Copy(f.slots, new)
	m.top = &f
}

func (m *asked) builtin(n int, l []api.Term) {
	if n < 20 {
		m.ask = vm.Ask{Kind: vm.AskCall, N: n, L: l}
		return
	}
	kinds := ""
	for _, x := range l {
		kinds += string("-icarptlb"[x.Kind])
	}
	name, _, _ := strings.Cut(builtins[n-1], "/")
	switch what := name + " " + kinds; {
	case what == "cx ii":
		m.put(cx(nearest(l[0].N), nearest(l[1].N)))
	case what == "conj i":
		m.put(l[0])
	case what == "conj c":
		m.number(num.One(api.Conj, l[0]))
	case what == "len t", what == "len l", what == "len b":
		m.put(api.Term{Kind: api.KInt, N: int64(len(l[0].L) + len(l[0].B))})
	case what == "elem it" && l[0].N > 0 && l[0].N <= int64(len(l[1].L)):
		m.put(l[1].L[l[0].N-1])
	case what == "hd l" && len(l[0].L) > 0:
		m.put(l[0].L[0])
	case what == "tl l" && len(l[0].L) > 0:
		m.made(api.KList, l[0].L[1:])
	case name == "cons" && kinds[1] == 'l':
		m.made(api.KList, slices.Concat(l[:1], l[1].L))
	default:
		m.fail("badarg")
	}
}

// nearest: the float64 nearest to n, of two the even one, looked for among three.
func nearest(n int64) float64 {
	guess := float64(n)
	for _, x := range []float64{math.Nextafter(guess, math.Inf(-1)), math.Nextafter(guess, math.Inf(1))} {
		a, b := distance(n, x), distance(n, guess)
		if a < b || a == b && math.Float64bits(x)%2 == 0 {
			guess = x
		}
	}
	return guess
}

func distance(n int64, x float64) int64 {
	d := int64(x) - n
	if math.Abs(x) < 1<<52 {
		return int64(math.Ceil(math.Abs(x - float64(n))))
	}
	return max(d, -d)
}

// answer: what it answers to an answer.
func (m *asked) answer(answer string, t api.Term) api.Errno {
	if !takesAnswer(m.ask.Kind, answer) {
		return api.ErrVmState
	}
	if answer != "pass" && term.Check(t) != api.OK {
		return api.ErrArg
	}
	was := m.ask
	m.ask = vm.Ask{}
	switch {
	case answer == "fail":
		m.end(vm.AskFail, t)
	case answer == "give":
		m.put(t)
	case was.Kind == vm.AskSend:
		m.put(was.U)
	case was.Kind == vm.AskPeek:
		m.goTo(m.funs[m.top.fun].Ins[m.top.at-1].A)
	}
	return api.OK
}
