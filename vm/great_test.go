package vm_test

import (
	"slices"
	"strings"
	"testing"

	"rookery/api"
	"rookery/vm"
)

// P1: terms that hold themselves, and very great ones, at each call.
func TestP1Terms(t *testing.T) {
	own := api.Term{Kind: api.KList, L: make([]api.Term, 2)}
	own.L[0], own.L[1] = own, own
	doubled := read("1")
	for range 60 {
		doubled = api.Term{Kind: api.KTuple, L: []api.Term{doubled, doubled}}
	}
	broad := read("1")
	for range 20 {
		broad = api.Term{Kind: api.KList, L: slices.Repeat([]api.Term{broad}, 256)}
	}
	for _, x := range []api.Term{own, doubled, broad, {Kind: api.KTuple, L: make([]api.Term, 1<<20)}, {Kind: api.KBytes, B: make([]byte, 1<<26)}, {Kind: api.KAtom, S: string(make([]byte, 1<<24))}, {L: own.L}} {
		l := prog("1(1): Load 0; Ret")
		if _, e := vm.New(l, 0, []api.Term{x}); e != api.ErrVmFun {
			t.Errorf("P20.1: New with an argument that may not be: %d", e)
		}
		for _, op := range []string{"Push 1", "Match _ else 0", "Pop", "Call 0/1"} {
			l := prog("1(1): Load 0; Ret; " + op)
			l[0].Ins[2].T = x
			if _, e := vm.New(l, 0, readAll("1")); e != api.ErrVmFun {
				t.Errorf("P20.1: New of %s with a term that may not be: %d", op, e)
			}
		}
		p := made(t, "Bif self/0; Ret")
		p.Run()
		for _, how := range []string{"give", "fail"} {
			if e := answerTo(p, how, x); e != api.ErrArg {
				t.Errorf("P20.3: %s of a term that may not be: %d", how, e)
			}
		}
		wantRun(t, "behind what is refused", p, "call self/0()")
	}
}

// P1: each Run ends, whatever loops a program has.
func TestP1EachRunEnds(t *testing.T) {
	heavy := "1(1): " + strings.Repeat("Load 0; Tuple 1; Match {V0} else 0; Pop; ", 900)
	heavy = strings.ReplaceAll(heavy, " else 0", " else <out>") + "Load 0; Ret; <out>:; Ret"
	call := "Push " + deep("1", 20) + "; Call 1/1; Pop; "
	wantTalk(t, "many long functions", []string{strings.Repeat(call, 60) + "Push end; Ret", heavy}, "turn", "end end")
	twice := "1(1): Load 0; Match 0 else <on>; Ret; <on>:; Pop; Load 0; Push -1; Bin +; Call 0/1; Pop; Load 0; Push -1; Bin +; Call 0/1; Ret"
	b := must(t, "2^90 calls", prog(twice), 0, read("90"))
	for range 2000 {
		if a := b.p.Run(); a.Kind != vm.AskTurn || b.p.Depth() > 91 {
			t.Fatalf("P20.2: %s, Depth %d", askText(a), b.p.Depth())
		}
	}
	l, main := source(t, "main() -> f(1, []). f(N, L) -> f(N + 1, case len(L) of 200 -> []; _ -> cons({N, N}, L) end).")
	long := must(t, "an endless loop", l, main)
	for range 300 {
		if a := long.p.Run(); a.Kind != vm.AskTurn || long.p.Depth() != 1 {
			t.Fatalf("P20.2: %s, Depth %d", askText(a), long.p.Depth())
		}
	}
}

// P1: as many functions and instructions as may be.
func TestP1Great(t *testing.T) {
	var l []api.Fun
	long := instructions(strings.Repeat("Push {1,[a]}; Pop; ", 1998) + "Load 0; Push 1; Bin +; Tail 0/1")
	for i := range 64 {
		f := api.Fun{Name: "f" + itoa(i), Arity: 1, Slots: 72, Ins: slices.Clone(long)}
		f.Ins[3999].A = (i + 1) % 64
		l = append(l, f)
	}
	p, e := vm.New(l, 5, readAll("0"))
	if e != api.OK {
		t.Fatalf("P20.1: New of 64 functions of 4000 instructions: %d", e)
	}
	for range 3 {
		if a := p.Run(); a.Kind != vm.AskTurn {
			t.Errorf("P20.2: %s", askText(a))
		}
	}
	if _, e := vm.New(make([]api.Fun, 1<<20), 0, nil); e != api.ErrVmFun {
		t.Errorf("P20.1: New of very many functions: %d", e)
	}
}

// P1: all frames, each with a great stack of great values, and one answer of them.
func TestP1GreatFrames(t *testing.T) {
	full := "[" + repeated("["+repeated("1", 254)+"]", 15) + "]"
	deepest := "2(72): " + strings.Repeat("Load 1; ", 290) + "Load 0; Match 0 else <on>; Push a; Load 1; Send; Ret; <on>:; Push -1; Bin +; Load 1; Call 0/2; Pop; " + strings.Repeat("Pop; ", 288) + "Ret"
	b := must(t, "great frames", prog(deepest), 0, read("99"), read(full))
	a := b.on()
	if a.Kind != vm.AskSend || !sameTerm(a.U, read(full)) || b.p.Depth() != 100 {
		t.Fatalf("P20.2: %s, Depth %d", brief(askText(a)), b.p.Depth())
	}
	b.give("pass", "ok")
	if got := askText(b.on()); got != "end "+full {
		t.Errorf("P20.2: %s", brief(got))
	}
}
