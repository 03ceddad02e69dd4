package vm_test

import (
	"testing"

	"rookery/api"
	"rookery/code"
	"rookery/vm"
)

// goOn: runs and answers, some of it wrong, till it ends, or for so many steps, or
// a few turns. What was asked is counted.
func (b *both) goOn(m *maker, steps int, seen map[int]int) {
	b.t.Helper()
	turns := 0
	for range steps {
		a := b.run()
		seen[a.Kind]++
		if a.Kind == vm.AskTurn {
			turns++
		}
		if turns == 4 {
			return
		}
		for range m.Intn(2) {
			b.answer(pick(m, howAll...), pick(m, api.Term{}, read("V0"), read(deep("", 25))))
		}
		if a.Kind == vm.AskEnd || a.Kind == vm.AskFail {
			b.answer(pick(m, howAll...), m.term(1))
			b.run()
			return
		}
		if a.Kind == vm.AskTurn || m.Intn(8) == 0 {
			continue
		}
		how := pick(m, "give", "pass")
		if m.Intn(15) == 0 {
			how = "fail"
		}
		b.answer(how, m.term(3))
		if m.Intn(4) == 0 {
			b.answer(pick(m, howAll...), m.term(1))
		}
	}
}

// Right functions, run and answered by chance, against what is worked out apart.
func TestP20_2Made(t *testing.T) {
	m := newMaker(201)
	seen, ops := map[int]int{}, [20]int{}
	reasons := map[string]int{}
	for i := range 6000 {
		l := m.right(1 + i%5)
		if _, _, e := code.Check(l); e != api.OK {
			t.Fatalf("P18.1: what was made right is refused: %d: %s", e, showFuns(l))
		}
		fun := m.Intn(len(l))
		var args []api.Term
		for range l[fun].Arity {
			args = append(args, m.term(2))
		}
		b := must(t, "made", l, fun, args...)
		b.goOn(m, 60, seen)
		for op, n := range b.q.ops {
			ops[op] += min(n, 50)
		}
		if b.q.ask.Kind == vm.AskFail && b.q.ask.T.Kind == api.KAtom {
			reasons[b.q.ask.T.S]++
		}
		if t.Failed() {
			t.Fatalf("the first that went wrong: %d", i)
		}
	}
	for kind := vm.AskTurn; kind <= vm.AskTake; kind++ {
		if seen[kind] < 100 {
			t.Errorf("only %d asks of the kind %d were met", seen[kind], kind)
		}
	}
	for op := api.OPush; op <= api.OTake; op++ {
		if ops[op] < 100 {
			t.Errorf("only %d of %s were done", ops[op], opNames[op-1])
		}
	}
	for reason, least := range map[string]int{"badarg": 1000, "zero": 20, "range": 10, "system_limit": 100} {
		if reasons[reason] < least {
			t.Errorf("only %d failed for %s", reasons[reason], reason)
		}
	}
}

// Functions a field of which is another one: some are refused, some go on.
func TestP20_1MadeSpoilt(t *testing.T) {
	m := newMaker(202)
	refused, seen := 0, map[int]int{}
	for i := range 12000 {
		l := m.right(1 + i%4)
		for range 1 + m.Intn(3)/2 {
			f := &l[m.Intn(len(l))]
			in := &f.Ins[m.Intn(len(f.Ins))]
			switch m.Intn(9) {
			case 0:
				in.A = m.Intn(len(f.Ins)+2) - 1
			case 6, 7, 8:
				if in.Op == api.OMatch {
					in.T = m.pattern(1)
				} else if in.Op == api.OPush {
					in.T = m.term(3)
				} else if in.Op == api.OBin {
					in.A = 1 + m.Intn(11)
				}
			case 1:
				*in = instruction(pick(m, "Pop", "Push 1", "Neg", "Bin +", "Ret", "Fail 2", "Jump 0", "Peek else 0", "Send", "Tuple 2", "List 0", "Bif hd/1", "Bif self/0", "Timer", "Next", "Take"))
			case 2:
				in.T = m.pattern(1)
			case 3:
				in.B = m.Intn(3)
			case 4:
				f.Slots = m.Intn(5)
			case 5:
				f.Arity = m.Intn(5)
			}
		}
		fun := m.Intn(len(l)+1) - m.Intn(8)/7
		var args []api.Term
		for range m.Intn(4) {
			args = append(args, m.term(2))
		}
		if 0 <= fun && fun < len(l) && m.Intn(8) > 0 {
			args = nil
			for range l[fun].Arity {
				args = append(args, m.term(1))
			}
		}
		b := begin(t, "spoilt", l, fun, args...)
		if b == nil {
			refused++
			continue
		}
		b.goOn(m, 30, seen)
		if t.Failed() {
			t.Fatalf("the first that went wrong: %d", i)
		}
	}
	if refused < 3000 || refused > 9000 {
		t.Errorf("%d of 12000 were refused", refused)
	}
}

// Patterns of a few slots against values of a few parts.
func TestP20_2MadeMatches(t *testing.T) {
	m := newMaker(203)
	fits := map[bool]int{}
	for range 40000 {
		slots := m.Intn(4)
		f := prog(itoa(slots) + "(" + itoa(slots+1) + "): Push 1; Match _ else <no>; Push yes; Tuple 2; Ret; <no>:; Push no; Tuple 2; Ret")
		m.f = &f[0]
		f[0].Ins[1].T = m.pattern(3)
		v := m.term(3)
		if m.Intn(2) == 0 {
			v = m.filled(f[0].Ins[1].T)
		}
		f[0].Ins[0].T = v
		var args []api.Term
		for range slots {
			args = append(args, m.term(1))
		}
		b := must(t, "a match", f, 0, args...)
		a := b.run()
		fits[a.T.L[1].S == "yes"]++
	}
	if fits[true] < 7000 || fits[false] < 7000 {
		t.Errorf("so many fitted: %v", fits)
	}
}

// filled: a value of the pattern's shape.
func (m *maker) filled(p api.Term) api.Term {
	switch p.Kind {
	case api.KVar, api.KAny:
		return m.term(1)
	case api.KTuple, api.KList:
		out := api.Term{Kind: p.Kind}
		for _, x := range p.L {
			out.L = append(out.L, m.filled(x))
		}
		return out
	}
	return p
}

// All codes of a few instructions that may be.
func TestP20_2AllShort(t *testing.T) {
	few := []string{"Push 1", "Push {a}", "Load 0", "Pop", "Tuple 1", "List 2", "Bin +", "Neg", "Match V0 else 0", "Match 1 else 1", "Match {V0} else 2", "Jump 1", "Jump 2", "Call 1/1", "Tail 1/1", "Ret", "Bif self/0", "Bif hd/1", "Send", "Fail 1", "Timer", "Peek else 0", "Peek else 2", "Next", "Take"}
	other := prog("Push 1; Ret", "1(1): Load 0; Match 1 else <x>; Ret; <x>:; Tuple 1; Ret")[1]
	right := 0
	m := newMaker(204)
	seen := map[int]int{}
	ins := make([]api.Ins, len(few))
	for i, s := range few {
		ins[i] = instruction(s)
	}
	for a := range ins {
		for b := range ins {
			for c := range ins {
				for _, d := range []int{15, 19, 11, 14} {
					l := []api.Fun{{Name: "f", Slots: 1, Ins: []api.Ins{ins[0], ins[a], ins[b], ins[c], ins[d]}}, other}
					if _, _, e := code.Check(l); e != api.OK {
						continue
					}
					right++
					x := must(t, "short", l, 0)
					x.goOn(m, 12, seen)
				}
			}
		}
	}
	if right < 2000 {
		t.Errorf("only %d were right", right)
	}
}
