package vm_test

import (
	"fmt"
	"maps"
	"strings"

	"rookery/api"
	"rookery/check"
	"rookery/num"
	"rookery/term"
	"rookery/vm"
)

// What a program means, told by its tree: no instruction, slot or stack, but what
// stands for each name. Each ask is answered by chance, and kept with its answer.

// telling: of one program. Frames count, since too many of them are a failure.
type telling struct {
	*maker
	tree   api.Tree
	frames int
	steps  int // how many expressions may still be told
	asks   []told
}

// told: what is asked, and how it is answered; "" at the end.
type told struct {
	ask vm.Ask
	how string
	x   api.Term
}

// reason is thrown where a program fails, enough where it goes on too long.
type reason struct{ t api.Term }

type enough struct{}

type meaning map[string]api.Term

// later: a call in the place of the function that calls.
type later struct {
	name string
	args []api.Term
}

// tell: all that main asks, its end the last; false, if that is too far.
func (v *telling) tell() (asks []told, whole bool) {
	defer func() {
		switch x := recover().(type) {
		case nil:
		case reason:
			asks, whole = append(v.asks, told{ask: vm.Ask{Kind: vm.AskFail, T: x.t}}), true
		case enough:
			asks = v.asks
		default:
			panic(x)
		}
	}()
	t := v.function("main", nil)
	return append(v.asks, told{ask: vm.Ask{Kind: vm.AskEnd, T: t}}), true
}

func fails(word string) { panic(reason{read(word)}) }

func failsOf(word string, t api.Term) { panic(reason{right(api.KTuple, read(word), t)}) }

// right: a term of these, if it is right.
func right(kind int, l ...api.Term) api.Term {
	t := api.Term{Kind: kind, L: l}
	if term.Check(t) != api.OK {
		fails("system_limit")
	}
	return t
}

func (v *telling) find(name string, args int) *api.Tree {
	for i, f := range v.tree.L {
		if f.S == name && len(f.L) == args+1 {
			return &v.tree.L[i]
		}
	}
	panic("no function " + name)
}

func (v *telling) function(name string, args []api.Term) api.Term {
	if v.frames == 100 {
		fails("system_limit")
	}
	v.frames++
	defer func() { v.frames-- }()
	for {
		f := v.find(name, len(args))
		names := meaning{}
		for i, x := range args {
			names[f.L[i].S] = x
		}
		t, next := v.body(&f.L[len(args)], names, true)
		if next == nil {
			return t
		}
		name, args = next.name, next.args
	}
}

func (v *telling) body(x *api.Tree, names meaning, last bool) (t api.Term, next *later) {
	for i := range x.L {
		t, next = v.expr(&x.L[i], names, last && i == len(x.L)-1)
	}
	return t, next
}

func (v *telling) value(x *api.Tree, names meaning) api.Term {
	t, _ := v.expr(x, names, false)
	return t
}

func (v *telling) values(l []api.Tree, names meaning) []api.Term {
	var out []api.Term
	for i := range l {
		out = append(out, v.value(&l[i], names))
	}
	return out
}

func numbered(t api.Term, e api.Errno) api.Term {
	if e != api.OK {
		fails(reasonWords[e])
	}
	return t
}

func (v *telling) expr(x *api.Tree, names meaning, last bool) (api.Term, *later) {
	if v.steps--; v.steps < 0 {
		panic(enough{})
	}
	switch x.Kind {
	case api.TCase:
		t := v.value(&x.L[0], names)
		return v.clauses(x.L[1:], t, names, last, func() { failsOf("case_clause", t) })
	case api.TRecv:
		return v.receive(x, names, last)
	case api.TCall:
		l := v.values(x.L, names)
		if n := check.Builtin(x.S, len(l)); n > 0 {
			return v.builtin(n, l), nil
		}
		if last {
			return api.Term{}, &later{x.S, l}
		}
		return v.function(x.S, l), nil
	}
	return v.plain(x, names), nil
}

func (v *telling) plain(x *api.Tree, names meaning) api.Term {
	switch x.Kind {
	case api.TInt:
		return api.Term{Kind: api.KInt, N: x.N}
	case api.TAtom:
		return api.Term{Kind: api.KAtom, S: x.S}
	case api.TBytes:
		return api.Term{Kind: api.KBytes, B: x.B}
	case api.TVar:
		t, ok := names[x.S]
		if !ok {
			panic("P17.1: not bound: " + x.S)
		}
		return t
	case api.TTuple:
		return right(api.KTuple, v.values(x.L, names)...)
	case api.TList:
		return right(api.KList, v.values(x.L, names)...)
	case api.TNeg:
		return numbered(num.One(api.Neg, v.value(&x.L[0], names)))
	case api.TBin:
		l := v.values(x.L, names)
		return binary(x.S, l[0], l[1])
	case api.TSend:
		l := v.values(x.L, names)
		v.ask(vm.Ask{Kind: vm.AskSend, T: l[0], U: l[1]}, "pass")
		return l[1]
	case api.TEqual:
		t := v.value(&x.L[1], names)
		if !fits(&x.L[0], t, names) {
			failsOf("badmatch", t)
		}
		return t
	}
	panic(fmt.Sprint("no expression: ", x.Kind))
}

func binary(sign string, a, b api.Term) api.Term {
	c, _ := term.Cmp(a, b)
	switch sign {
	case "+":
		return numbered(num.Do(api.Add, a, b))
	case "-":
		return numbered(num.Do(api.Sub, a, b))
	case "*":
		return numbered(num.Do(api.Mul, a, b))
	case "/":
		return numbered(num.Do(api.Div, a, b))
	case "rem":
		return numbered(num.Do(api.Rem, a, b))
	}
	is := map[string]bool{"==": c == 0, "/=": c != 0, "<": c < 0, ">": c > 0, "=<": c <= 0, ">=": c >= 0}
	return read(fmt.Sprint(is[sign]))
}

func (v *telling) clauses(l []api.Tree, t api.Term, names meaning, last bool, none func()) (api.Term, *later) {
	for i := range l {
		inner := maps.Clone(names)
		if fits(&l[i].L[0], t, inner) {
			return v.body(&l[i].L[1], inner, last)
		}
	}
	none()
	return api.Term{}, nil
}

// fits: then the names of the pattern that stood for nothing stand for parts of t.
func fits(p *api.Tree, t api.Term, names meaning) bool {
	old, new := names, meaning{}
	var walk func(p *api.Tree, t api.Term) bool
	walk = func(p *api.Tree, t api.Term) bool {
		switch p.Kind {
		case api.TVar:
			if p.S == "_" {
				return true
			}
			for _, m := range []meaning{old, new} {
				if was, ok := m[p.S]; ok {
					return term.Same(was, t)
				}
			}
			new[p.S] = t
			return true
		case api.TTuple, api.TList:
			kind := map[int]int{api.TTuple: api.KTuple, api.TList: api.KList}[p.Kind]
			ok := t.Kind == kind && len(t.L) == len(p.L)
			for i := 0; ok && i < len(p.L); i++ {
				ok = walk(&p.L[i], t.L[i])
			}
			return ok
		case api.TNeg:
			return term.Same(t, api.Term{Kind: api.KInt, N: -p.L[0].N})
		}
		return term.Same(t, (&telling{}).plain(p, nil))
	}
	if !walk(p, t) {
		return false
	}
	maps.Copy(names, new)
	return true
}

// ask: its answer is one of these, or a failure.
func (v *telling) ask(a vm.Ask, hows ...string) (string, api.Term) {
	if len(v.asks) > 40 {
		panic(enough{})
	}
	how, x := pick(v.maker, hows...), v.term(2)
	if v.Intn(40) == 0 {
		how = "fail"
	}
	v.asks = append(v.asks, told{a, how, x})
	if how == "fail" {
		panic(reason{x})
	}
	return how, x
}

func (v *telling) receive(x *api.Tree, names meaning, last bool) (api.Term, *later) {
	n := len(x.L) - 1
	clauses, wait := x.L, read("infinity")
	after := &x.L[n]
	if after.Kind == api.TAfter {
		clauses, wait = x.L[:n], v.value(&after.L[0], names)
	}
	v.ask(vm.Ask{Kind: vm.AskTimer, T: wait}, "pass")
	for {
		how, t := v.ask(vm.Ask{Kind: vm.AskPeek}, "give", "give", "pass")
		switch {
		case how == "give":
			for i := range clauses {
				inner := maps.Clone(names)
				if fits(&clauses[i].L[0], t, inner) {
					v.ask(vm.Ask{Kind: vm.AskTake, T: t}, "pass")
					return v.body(&clauses[i].L[1], inner, last)
				}
			}
			v.ask(vm.Ask{Kind: vm.AskNext, T: t}, "pass")
		case after.Kind == api.TAfter:
			return v.body(&after.L[1], maps.Clone(names), last)
		default:
			failsOf("timeout", read("timeout"))
		}
	}
}

func (v *telling) builtin(n int, l []api.Term) api.Term {
	name, _, _ := strings.Cut(builtins[n-1], "/")
	isList := len(l) > 0 && l[len(l)-1].Kind == api.KList
	switch {
	case n < 20:
		_, t := v.ask(vm.Ask{Kind: vm.AskCall, N: n, L: l}, "give")
		return t
	case name == "cx" && l[0].Kind == api.KInt && l[1].Kind == api.KInt:
		return cx(float64(l[0].N), float64(l[1].N))
	case name == "conj":
		return numbered(num.One(api.Conj, l[0]))
	case name == "len" && l[0].Kind == api.KBytes:
		return api.Term{Kind: api.KInt, N: int64(len(l[0].B))}
	case name == "len" && (isList || l[0].Kind == api.KTuple):
		return api.Term{Kind: api.KInt, N: int64(len(l[0].L))}
	case name == "elem" && l[0].Kind == api.KInt && l[1].Kind == api.KTuple:
		for i, x := range l[1].L {
			if int64(i+1) == l[0].N {
				return x
			}
		}
	case name == "hd" && isList:
		for _, x := range l[0].L {
			return x
		}
	case name == "tl" && isList && len(l[0].L) > 0:
		return right(api.KList, l[0].L[1:]...)
	case name == "cons" && isList:
		return right(api.KList, append([]api.Term{l[0]}, l[1].L...)...)
	}
	fails("badarg")
	return api.Term{}
}
