package vm_test

import (
	"runtime"
	"slices"
	"strings"
	"sync"
	"testing"
	"unsafe"

	"rookery/api"
	"rookery/vm"
)

// roomy: t anew, with spare room in which something stands.
func roomy(t api.Term) api.Term {
	t.S = strings.Clone(t.S)
	t.B = append(append(make([]byte, 0, len(t.B)+8), t.B...), "spare"...)[:len(t.B)]
	l := make([]api.Term, 0, len(t.L)+2)
	for _, x := range t.L {
		l = append(l, roomy(x))
	}
	t.L = append(l, read("spare"))[:len(l)]
	return t
}

func roomyAll(l []api.Term) []api.Term { return roomy(api.Term{L: l}).L }

func roomyFuns(l []api.Fun) []api.Fun {
	out := make([]api.Fun, 0, len(l)+1)
	for _, f := range l {
		ins := make([]api.Ins, 0, len(f.Ins)+2)
		for _, in := range f.Ins {
			in.T = roomy(in.T)
			ins = append(ins, in)
		}
		f.Name, f.Ins = strings.Clone(f.Name), append(ins, api.Ins{Op: 99})[:len(ins)]
		out = append(out, f)
	}
	return append(out, api.Fun{Name: "spare"})[:len(l)]
}

// whole: t with all that stands in its spare room.
func whole(t api.Term) api.Term {
	n := len(t.L)
	t.B, t.L = slices.Clone(t.B[:cap(t.B)]), slices.Clone(t.L[:cap(t.L)])
	for i := range n {
		t.L[i] = whole(t.L[i])
	}
	return t
}

func wholeFuns(l []api.Fun) []api.Fun {
	out := slices.Clone(l[:cap(l)])
	for i := range l {
		out[i].Ins = slices.Clone(l[i].Ins[:cap(l[i].Ins)])
		for j := range l[i].Ins {
			out[i].Ins[j].T = whole(l[i].Ins[j].T)
		}
	}
	return out
}

func sameFuns(a, b []api.Fun) bool {
	return slices.EqualFunc(a, b, func(a, b api.Fun) bool {
		return a.Name == b.Name && a.Arity == b.Arity && a.Slots == b.Slots && slices.EqualFunc(a.Ins, b.Ins, func(a, b api.Ins) bool {
			return a.Op == b.Op && a.A == b.A && a.B == b.B && sameTerm(a.T, b.T)
		})
	})
}

// spoil changes all memory of t, its spare room included.
func spoil(t api.Term) {
	for i := range t.B[:cap(t.B)] {
		t.B[:cap(t.B)][i] ^= 0x55
	}
	for _, x := range t.L {
		spoil(x)
	}
	for i := range t.L[:cap(t.L)] {
		t.L[:cap(t.L)][i] = api.Term{Kind: 77, N: 5}
	}
}

func spoilAsk(a vm.Ask) {
	spoil(a.T)
	spoil(a.U)
	spoil(api.Term{L: a.L})
}

func spoilFuns(l []api.Fun) {
	for i := range l {
		for j := range l[i].Ins {
			spoil(l[i].Ins[j].T)
		}
		for j := range l[i].Ins[:cap(l[i].Ins)] {
			l[i].Ins[:cap(l[i].Ins)][j] = instruction("Push spoilt")
		}
	}
	for i := range l[:cap(l)] {
		l[:cap(l)][i] = api.Fun{Name: "spoilt"}
	}
}

// R4: what is handed in is not changed, its spare room included, though the
// process goes on with it.
func TestR4NothingIsChanged(t *testing.T) {
	m := newMaker(41)
	for i := range 1500 {
		l := roomyFuns(m.right(1 + i%4))
		fun := m.Intn(len(l))
		var args []api.Term
		for range l[fun].Arity {
			args = append(args, m.term(3))
		}
		args = roomyAll(args)
		was, wasArgs := wholeFuns(l), whole(api.Term{L: args})
		p, e := vm.New(l, fun, args)
		if e != api.OK {
			t.Fatalf("P20.1: New of %s: %d", showFuns(l), e)
		}
		var given, wasGiven []api.Term
		for range 30 {
			a := p.Run()
			if a.Kind == vm.AskEnd || a.Kind == vm.AskFail {
				break
			}
			x := roomy(m.term(3))
			given, wasGiven = append(given, x), append(wasGiven, whole(x))
			if p.Give(x) != api.OK && (m.Intn(20) > 0 || p.Fail(x) != api.OK) {
				p.Pass()
			}
		}
		if !sameFuns(wholeFuns(l), was) || !sameTerm(whole(api.Term{L: args}), wasArgs) {
			t.Errorf("R4: what was handed in to New is changed: %s", showFuns(l))
		}
		for i, x := range given {
			if !sameTerm(whole(x), wasGiven[i]) {
				t.Errorf("R4: what was given is changed: %s", show(x))
			}
		}
	}
}

// R4: nothing that was handed in is kept, nothing that was answered is shared:
// one process whose memory outside is spoilt at each step goes on as another one.
func TestR4NothingIsKept(t *testing.T) {
	m := newMaker(42)
	asks := 0
	for i := range 1500 {
		l := m.right(1 + i%4)
		fun := m.Intn(len(l))
		var args []api.Term
		for range l[fun].Arity {
			args = append(args, m.term(3))
		}
		theirs, theirArgs := roomyFuns(l), roomyAll(args)
		p, e := vm.New(theirs, fun, theirArgs)
		q, e2 := newAsked(l, fun, args)
		if e != api.OK || e2 != api.OK {
			t.Fatalf("P20.1: New of %s: %d, %d", showFuns(l), e, e2)
		}
		spoilFuns(theirs)
		spoil(api.Term{L: theirArgs})
		for range 25 {
			want := q.Run()
			for range 2 {
				a := p.Run()
				if !sameAsk(a, want) {
					t.Fatalf("R4: of %s: %s; want %s", showFuns(l), askText(a), askText(want))
				}
				spoilAsk(a)
				if want.Kind == vm.AskTurn {
					break
				}
				asks++
			}
			if want.Kind == vm.AskEnd || want.Kind == vm.AskFail {
				break
			}
			how := pick(m, "give", "give", "pass")
			if m.Intn(12) == 0 {
				how = "fail"
			}
			x := m.term(3)
			theirX := roomy(x)
			if e, e2 := answerTo(p, how, theirX), q.answer(how, x); e != e2 {
				t.Fatalf("P20.3: of %s: %s: %d; want %d", showFuns(l), how, e, e2)
			}
			spoil(theirX)
		}
	}
	if asks < 6000 {
		t.Errorf("only %d asks were met", asks)
	}
}

// block: a piece of memory, from its first byte up to behind its last one.
type block struct {
	from, to uintptr
	what     string
}

type blocks []block

func (b *blocks) add(what string, at unsafe.Pointer, size uintptr) {
	if size > 0 {
		*b = append(*b, block{uintptr(at), uintptr(at) + size, what})
	}
}

func addList[T any](b *blocks, what string, l []T) {
	var x T
	b.add(what, unsafe.Pointer(unsafe.SliceData(l)), uintptr(cap(l))*unsafe.Sizeof(x))
}

func (b *blocks) term(what string, x api.Term) {
	b.add(what+": a name", unsafe.Pointer(unsafe.StringData(x.S)), uintptr(len(x.S)))
	addList(b, what+": bytes", x.B)
	b.terms(what, x.L)
}

func (b *blocks) terms(what string, l []api.Term) {
	addList(b, what+": elements", l)
	for _, x := range l {
		b.term(what, x)
	}
}

func (b *blocks) ask(what string, a vm.Ask) {
	b.term(what, a.T)
	b.term(what, a.U)
	b.terms(what, a.L)
}

// overlap: two of the blocks that have a byte in common.
func overlap(l blocks) (string, bool) {
	l = slices.Clone(l)
	slices.SortFunc(l, func(a, b block) int { return int(a.from) - int(b.from) })
	for i := 1; i < len(l); i++ {
		if l[i].from < l[i-1].to {
			return l[i-1].what + " and " + l[i].what, true
		}
	}
	return "", false
}

// R4: answers share no memory with what was handed in, with another answer, or
// within themselves, though one value stands in many places of the process.
func TestR4AnswersAreNewMemory(t *testing.T) {
	one := `{[1,"bytes",{atom}],"more",undefined}`
	fs := [][]string{
		{"1(2): Load 0; Load 0; Load 0; List 2; Tuple 2; Ret"}, {"1(2): Load 0; Load 0; Send; Load 0; List 2; Ret"}, {"1(2): Load 0; Timer; Load 0; Load 0; Bif claim/2; Ret"}, {"1(2): Load 0; Next; Load 0; Take; Load 0; Fail 1"},
		{"1(2): Load 0; Match V1 else <x>; <x>:; Load 1; Load 0; Bif spawn/3; Ret"}, {"1(2): Load 0; Call 1/1; Load 0; Load 1; List 3; Ret", "1(2): Load 0; Load 1; Load 0; Tuple 3; Ret"}, {"1(1): Push " + one + "; Push " + one + "; Bin ==; Push " + one + "; Tuple 2; Ret"},
		{"1(1): Bif self/0; Load 0; Bif self/0; List 3; Ret"}, {"1(1): Peek else <x>; Load 0; Tuple 2; Ret; <x>:; Load 0; Neg; Ret"}, {"1(1): Push 1; Push {a,\"b\"}; Push [c]; Push [c]; Bif spawn/3; Tuple 2; Ret"},
	}
	for _, f := range fs {
		l := roomyFuns(prog(f...))
		arg := roomyAll(readAll(one))
		var all blocks
		var keep []any
		for range 2 {
			p, e := vm.New(l, 0, arg)
			if e != api.OK {
				t.Fatalf("P20.1: New of %s: %d", showFuns(l), e)
			}
			for range 6 {
				a, b := p.Run(), p.Run()
				all.ask("an answer", a)
				all.ask("the same answer again", b)
				x := roomy(read(one))
				all.term("what was given", x)
				if p.Give(x) != api.OK {
					p.Pass()
				}
				keep = append(keep, p, a, b, x)
			}
		}
		all.terms("an argument", arg)
		for _, f := range l {
			for _, in := range f.Ins {
				all.term("an instruction", in.T)
			}
		}
		if what, ok := overlap(all); ok {
			t.Errorf("R4: of %s: memory is shared by %s", showFuns(l), what)
		}
		runtime.KeepAlive(keep)
		runtime.KeepAlive(l)
		runtime.KeepAlive(arg)
	}
}

// course: all that a process asks and answers, as a text; what is handed in is
// told by the seed.
func course(l []api.Fun, fun int, args []api.Term, seed int64) string {
	m := newMaker(seed)
	p, e := vm.New(l, fun, args)
	out := "New " + itoa(int(e))
	for range 20 {
		out += "; " + askText(p.Run()) + " @" + itoa(p.Depth())
		for range 2 {
			out += " " + itoa(int(answerTo(p, pick(m, howAll[:2]...), m.term(2))))
		}
	}
	return out
}

// R6, R9: what one process does hangs on nothing that another one does, of the
// same functions too, one behind the other or at the same time.
func TestR6TheSameAgain(t *testing.T) {
	m := newMaker(43)
	var funs [][]api.Fun
	var args [][]api.Term
	var want []string
	for i := range 300 {
		l := m.right(1 + i%4)
		var a []api.Term
		for range l[0].Arity {
			a = append(a, m.term(2))
		}
		funs, args, want = append(funs, l), append(args, a), append(want, course(l, 0, a, int64(i)))
	}
	var group sync.WaitGroup
	for range 4 {
		group.Go(func() {
			for i, l := range slices.Backward(funs) {
				if got := course(l, 0, args[i], int64(i)); got != want[i] {
					t.Errorf("R6: %s: %s; then %s", showFuns(l), brief(want[i]), brief(got))
				}
			}
		})
	}
	group.Wait()
}

// R6: many processes of one program, run by turns, don't touch one another.
func TestR6SideBySide(t *testing.T) {
	l := prog("1(1): Load 0; Tail 1/1", "1(1): Load 0; Match {x,0} else <on>; Ret; <on>:; Match {x,V0} else <no>; Pop; Push x; Load 0; Push -1; Bin +; Tuple 2; Tail 1/1; <no>:; Fail 1")
	var ps []*vm.Proc
	for i := range 60 {
		p, e := vm.New(l, 0, readAll("{x,"+itoa(7*i)+"}"))
		if e != api.OK {
			t.Fatalf("P20.1: New: %d", e)
		}
		ps = append(ps, p)
	}
	for round := range 12 {
		for i, p := range ps {
			want := "turn"
			// the tail call of f0, those of f1, and each 40 of them a turn.
			if 1+7*i <= 40*(round+1) {
				want = "end {x,0}"
			}
			if got := askText(p.Run()); got != want {
				t.Fatalf("R6: the process %d in the round %d: %s; want %s", i, round, got, want)
			}
		}
	}
}

// R3: an empty list is a nil one, wherever it is handed in.
func TestR3Empty(t *testing.T) {
	m := newMaker(3)
	var empty func(t api.Term) api.Term
	empty = func(t api.Term) api.Term {
		l := make([]api.Term, 0, len(t.L))
		for _, x := range t.L {
			l = append(l, empty(x))
		}
		t.L = l
		if t.B == nil {
			t.B = []byte{}
		}
		return t
	}
	for i := range 500 {
		l := m.right(1 + i%4)
		other := roomyFuns(l)
		for k := range other {
			for j := range other[k].Ins {
				other[k].Ins[j].T = empty(other[k].Ins[j].T)
			}
		}
		var args, others []api.Term
		for range l[0].Arity {
			x := m.term(2)
			args, others = append(args, x), append(others, empty(x))
		}
		if len(args) == 0 {
			others = []api.Term{}
		}
		a, b := course(l, 0, args, int64(i)), course(other, 0, others, int64(i))
		if a != b {
			t.Errorf("R3: %s: %s with nil lists, %s with empty ones", showFuns(l), brief(a), brief(b))
		}
	}
}
