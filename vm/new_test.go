package vm_test

import (
	"math"
	"slices"
	"strings"
	"testing"

	"rookery/api"
	"rookery/vm"
)

// wantRefused: New answers ErrVmFun, and no process.
func wantRefused(t testing.TB, what string, l []api.Fun, fun int, args ...api.Term) {
	t.Helper()
	if p, e := vm.New(l, fun, args); e != api.ErrVmFun || p != nil {
		t.Errorf("P20.1: %s: New of %s, %d, (%s): %d; want ErrVmFun", what, showFuns(l), fun, brief(showAll(args)), e)
	}
	begin(t, what, l, fun, args...)
}

// three: functions of 0, 1 and 8 arguments.
func three() []api.Fun {
	return prog("Push 7; Ret", "1(3): Load 0; Load 1; Load 2; Tuple 3; Ret", "8(8): Load 7; Load 0; Tuple 2; Ret")
}

func TestP20_1Functions(t *testing.T) {
	wantRefused(t, "no function", nil, 0)
	wantRefused(t, "no function", []api.Fun{}, 0)
	for i := range 3 {
		for what, change := range map[string]func(f *api.Fun){
			"no atom's name": func(f *api.Fun) { f.Name = "A" }, "no name": func(f *api.Fun) { f.Name = "" }, "Arity below 0": func(f *api.Fun) { f.Arity = -1 }, "Arity 9": func(f *api.Fun) { f.Arity, f.Slots = 9, 9 },
			"too few slots": func(f *api.Fun) { f.Slots = -1 }, "too many slots": func(f *api.Fun) { f.Slots = 73 }, "no instruction": func(f *api.Fun) { f.Ins = nil }, "no Op": func(f *api.Fun) { f.Ins[0].Op = 20 }, "a field too many": func(f *api.Fun) { f.Ins[0].B = 1 },
			"a wrong term": func(f *api.Fun) { f.Ins[0] = api.Ins{Op: api.OPush} }, "nowhere": func(f *api.Fun) { f.Ins[0] = instruction("Jump 99") }, "no such function": func(f *api.Fun) { f.Ins[0] = instruction("Call 4/0") }, "another Arity": func(f *api.Fun) { f.Ins[0] = instruction("Call 0/1") },
			"nothing to take": func(f *api.Fun) { f.Ins[0] = instruction("Ret") }, "beyond the end": func(f *api.Fun) { f.Ins = f.Ins[:1] }, "two of one name": func(f *api.Fun) { f.Name, f.Arity, f.Slots = "f9", 0, 8 },
		} {
			l := append(three(), prog("Push 1; Ret")[0])
			l[3].Name = "f9"
			change(&l[i])
			for fun, arity := range []int{l[0].Arity, l[1].Arity, l[2].Arity, 0} {
				wantRefused(t, what, l, fun, slices.Repeat(readAll("1"), max(arity, 0))...)
			}
		}
	}
	many := func(n int) []api.Fun {
		l := prog(slices.Repeat([]string{"Push 1; Ret"}, n)...)
		return l
	}
	must(t, "64 functions", many(64), 63).talk("end 1")
	wantRefused(t, "65 functions", many(65), 63)
	long := func(n int) []api.Fun { return prog(strings.Repeat("Push 1; Pop; ", n/2-1) + "Push 2; Ret") }
	must(t, "4000 instructions", long(4000), 0).talk("end 2")
	wantRefused(t, "4002 instructions", long(4002), 0)
	wantRefused(t, "301 values", prog(strings.Repeat("Push 1; ", 301)+"Ret"), 0)
	must(t, "300 values", prog(strings.Repeat("Push 1; ", 299)+"Push 3; Ret"), 0).talk("end 3")
}

func TestP20_1FunctionsNumber(t *testing.T) {
	for _, fun := range []int{-1, 3, 4, 64, -3, math.MinInt, math.MaxInt} {
		for n := range 9 {
			wantRefused(t, "there is no such function", three(), fun, slices.Repeat(readAll("1"), n)...)
		}
	}
	must(t, "the first function", three(), 0).talk("end 7")
	must(t, "the second function", three(), 1, readAll("5")...).talk("end {5,undefined,undefined}")
	must(t, "the last function", three(), 2, readAll("1", "2", "3", "4", "5", "6", "7", "8")...).talk("end {8,1}")
}

func TestP20_1Arguments(t *testing.T) {
	for fun, arity := range []int{0, 1, 8} {
		for n := range 12 {
			args := slices.Repeat(readAll("1"), n)
			if n != arity {
				wantRefused(t, "too few or too many arguments", three(), fun, args...)
				continue
			}
			b := must(t, "as many arguments", three(), fun, args...)
			if b.p.Depth() != 1 {
				t.Errorf("P20.1: Depth of a new process: %d; want 1", b.p.Depth())
			}
		}
	}
	if _, e := vm.New(three(), 1, make([]api.Term, 1<<20)); e != api.ErrVmFun {
		t.Errorf("P20.1: very many arguments: %d", e)
	}
	for _, x := range wrongTerms() {
		wantRefused(t, "no right term", three(), 1, x)
		for i := range 8 {
			args := readAll("1", "a", "[]", "{}", "1", "2", "3", "4")
			args[i] = x
			wantRefused(t, "one is no right term", three(), 2, args...)
		}
	}
	for _, x := range rightTerms() {
		must(t, "a right term", prog("1(1): Load 0; Ret"), 0, x).talk("end " + show(x))
	}
	if p, e := vm.New(three(), 0, []api.Term{}); p == nil || e != api.OK {
		t.Errorf("R3: an empty list of arguments: %d", e)
	}
}

// A frame's first slots are the arguments, the others the atom undefined.
func TestP20_1Slots(t *testing.T) {
	for arity := range 9 {
		for _, more := range []int{0, 1, 5, 64} {
			slots := arity + more
			code := ""
			var args []api.Term
			var want []string
			for i := range slots {
				code += "Load " + itoa(i) + "; "
				if i < arity {
					args = append(args, read("{a,"+itoa(i)+"}"))
					want = append(want, "{a,"+itoa(i)+"}")
				} else {
					want = append(want, "undefined")
				}
			}
			f := itoa(arity) + "(" + itoa(slots) + "): " + code + "List " + itoa(slots) + "; Ret"
			must(t, "slots", prog(f), 0, args...).talk("end [" + strings.Join(want, ",") + "]")
			caller := ""
			for _, x := range args {
				caller += "Push " + show(x) + "; "
			}
			call := "1/" + itoa(arity)
			wantTalk(t, "a called one's slots", []string{caller + "Call " + call + "; Ret", f}, "end ["+strings.Join(want, ",")+"]")
			wantTalk(t, "a tail called one's slots", []string{caller + "Tail " + call, f}, "end ["+strings.Join(want, ",")+"]")
		}
	}
}
