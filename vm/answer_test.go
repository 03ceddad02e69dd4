package vm_test

import (
	"testing"

	"rookery/api"
	"rookery/vm"
)

// asking: functions whose f0 asks each thing first, by its kind; what it asks
// then; and what it comes to, if it is passed, and if it is given {g}. "" where
// that is no answer.
var asking = []struct {
	kind                int
	f, ask, pass, given string
}{
	{vm.AskCall, "Push below; Push 1; Bif link/1; Tuple 2; Ret", "call link/1(1)", "", "end {below,{g}}"},
	{vm.AskSend, "Push below; Push to; Push [x]; Send; Tuple 2; Ret", "send to ! [x]", "end {below,[x]}", ""},
	{vm.AskTimer, "Push below; Push 5; Timer; Push on; Tuple 2; Ret", "timer 5", "end {below,on}", ""},
	{vm.AskPeek, "Push below; Peek else <x>; Tuple 2; Ret; <x>:; Push none; List 2; Ret", "peek", "end [below,none]", "end {below,{g}}"},
	{vm.AskNext, "Push below; Push 5; Next; Push on; Tuple 2; Ret", "next 5", "end {below,on}", ""},
	{vm.AskTake, "Push below; Push 5; Take; Push on; Tuple 2; Ret", "take 5", "end {below,on}", ""},
}

// wantState: each answer is ErrVmState, whatever is handed in, and nothing changes.
func wantState(t testing.TB, what string, p *vm.Proc, hows ...string) {
	t.Helper()
	was := p.Depth()
	for _, how := range hows {
		for _, x := range append(wrongTerms(), rightTerms()...) {
			if e := answerTo(p, how, x); e != api.ErrVmState {
				t.Errorf("P20.3: %s: %s %s: %d; want ErrVmState", what, how, brief(show(x)), e)
			}
		}
	}
	if got := p.Depth(); got != was {
		t.Errorf("R2: %s: Depth: %d; want %d", what, got, was)
	}
}

// wantArg: the answer is taken there, but not with what is no right term.
func wantArg(t testing.TB, what string, p *vm.Proc, how string) {
	t.Helper()
	for _, x := range wrongTerms() {
		if e := answerTo(p, how, x); e != api.ErrArg {
			t.Errorf("P20.3: %s: %s of what is no right term: %d; want ErrArg", what, how, e)
		}
	}
}

func wantRun(t testing.TB, what string, p *vm.Proc, want string) {
	t.Helper()
	for range 2 {
		if got := askText(p.Run()); got != want {
			t.Errorf("P20.2: %s: %s; want %s", what, brief(got), brief(want))
		}
	}
}

func made(t testing.TB, f ...string) *vm.Proc {
	t.Helper()
	p, e := vm.New(prog(f...), 0, nil)
	if e != api.OK {
		t.Fatalf("P20.1: New of %s: %d", showFuns(prog(f...)), e)
	}
	return p
}

// Which answers each ask takes: in each state, with each term.
func TestP20_3States(t *testing.T) {
	for _, c := range asking {
		for _, inner := range []bool{false, true} {
			start := func() *vm.Proc {
				if inner {
					return made(t, "Call 1/0; Ret", c.f)
				}
				return made(t, c.f)
			}
			p := start()
			wantState(t, "ahead of the first Run", p, howAll...)
			wantRun(t, "the ask", p, c.ask)
			if c.pass == "" {
				wantState(t, c.ask, p, "pass")
			}
			if c.given == "" {
				wantState(t, c.ask, p, "give")
			} else {
				wantArg(t, c.ask, p, "give")
			}
			wantArg(t, c.ask, p, "fail")
			wantRun(t, "the ask, behind what is refused", p, c.ask)
			if c.pass != "" {
				if e := p.Pass(); e != api.OK {
					t.Errorf("P20.3: %s: Pass: %d", c.ask, e)
				}
				wantState(t, c.ask+" is passed", p, howAll...)
				wantRun(t, "behind Pass", p, c.pass)
				wantState(t, "at its end", p, howAll...)
				wantRun(t, "at its end", p, c.pass)
			}
			if c.given != "" {
				p := start()
				p.Run()
				if e := p.Give(read("{g}")); e != api.OK {
					t.Errorf("P20.3: %s: Give: %d", c.ask, e)
				}
				wantState(t, c.ask+" is given", p, howAll...)
				wantRun(t, "behind Give", p, c.given)
				wantState(t, "at its end", p, howAll...)
			}
			p = start()
			p.Run()
			if e := p.Fail(read("[why]")); e != api.OK {
				t.Errorf("P20.3: %s: Fail: %d", c.ask, e)
			}
			if p.Depth() != 0 {
				t.Errorf("P20.3: %s: Depth behind Fail: %d; want 0", c.ask, p.Depth())
			}
			wantState(t, c.ask+" failed", p, howAll...)
			wantRun(t, "behind Fail", p, "fail [why]")
			wantState(t, c.ask+" failed and was run", p, howAll...)
			wantRun(t, "behind Fail", p, "fail [why]")
		}
	}
}

// A turn, an end and a failure take no answer.
func TestP20_3NoAnswers(t *testing.T) {
	p := made(t, "Push 1; <x>:; Bif conj/1; Jump <x>")
	for range 3 {
		wantState(t, "ahead of a turn", p, howAll[:0]...)
		if a := p.Run(); a.Kind != vm.AskTurn {
			t.Fatalf("P20.2: %s; want turn", askText(a))
		}
		wantState(t, "at a turn", p, howAll...)
	}
	for f, want := range map[string]string{"Push 1; Ret": "end 1", "Push 1; Fail 1": "fail {badmatch,1}", "Push a; Neg; Ret": "fail badarg", "Call 0/0; Ret": "fail system_limit"} {
		p := made(t, f)
		for a := p.Run(); a.Kind == vm.AskTurn; a = p.Run() {
			wantState(t, "at a turn", p, howAll...)
		}
		for range 2 {
			wantState(t, want, p, howAll...)
			wantRun(t, "at its end", p, want)
		}
	}
}

// Each right term may be given, and failed with; it is what it comes to.
func TestP20_3EachTerm(t *testing.T) {
	for _, x := range rightTerms() {
		for _, f := range []string{"Bif self/0; Ret", "Peek else <x>; Ret; <x>:; Push none; Ret"} {
			b := must(t, "Give", prog(f), 0)
			b.run()
			if e := b.answer("give", x); e != api.OK {
				t.Errorf("P20.3: Give %s: %d", brief(show(x)), e)
			}
			wantRun(t, "Give", b.p, "end "+show(x))
		}
		for _, c := range asking {
			b := must(t, "Fail", prog(c.f), 0)
			b.run()
			if e := b.answer("fail", x); e != api.OK {
				t.Errorf("P20.3: Fail %s: %d", brief(show(x)), e)
			}
			wantRun(t, "Fail", b.p, "fail "+show(x))
		}
	}
}

// What is given is used as any value is: by a pattern, by a sign, by a builtin.
func TestP20_3GivenValues(t *testing.T) {
	s := "main() -> case find(a) of {X, [X, Y]} -> X + Y; Z -> {no, Z} end."
	wantText(t, "a pattern", s, "call find/1(a) < give {1,[1,2]}", "end 3")
	wantText(t, "a pattern", s, "call find/1(a) < give {1,[2,2]}", "end {no,{1,[2,2]}}")
	wantText(t, "a pattern", s, "call find/1(a) < give "+deep("", 23), "end {no,"+deep("", 23)+"}")
	wantText(t, "too deep now", s, "call find/1(a) < give "+deep("", 24), "fail system_limit")
	wantText(t, "a sign", "main() -> node() * 2.", "call node/0() < give 21", "end 42")
	wantText(t, "a sign", "main() -> node() * 2.", "call node/0() < give a", "fail badarg")
	wantText(t, "a builtin", "main() -> hd(nodes()).", "call nodes/0() < give [1,2]", "end 1")
	wantText(t, "a builtin", "main() -> hd(nodes()).", "call nodes/0() < give []", "fail badarg")
	wantText(t, "two of them", "main() -> {self(), ref()}.", "call self/0() < give #p1.1.1", "call ref/0() < give #r1.1.2", "end {#p1.1.1,#r1.1.2}")
	wantText(t, "an argument of another one", "main() -> link(spawn(f, [1])). f(X) -> X.", "call spawn/2(f,[1]) < give #p1.1.2", "call link/1(#p1.1.2) < give true", "end true")
	wantText(t, "a send's value is its message", "main() -> X = whereis(a) ! {b, 1}, {X, 2}.", "call whereis/1(a) < give #p1.1.2", "send #p1.1.2 ! {b,1} < pass", "end {{b,1},2}")
}

// A nil *Proc: nothing is asked, nothing may be answered.
func TestP20_3Nil(t *testing.T) {
	var p *vm.Proc
	for range 2 {
		if a := p.Run(); !sameAsk(a, vm.Ask{}) {
			t.Errorf("P20.3: Run of nil: %s", askText(a))
		}
		if d := p.Depth(); d != 0 {
			t.Errorf("P20.3: Depth of nil: %d", d)
		}
		for _, how := range howAll {
			for _, x := range append(wrongTerms(), read("a")) {
				if e := answerTo(p, how, x); e != api.ErrNil {
					t.Errorf("P20.3: %s of nil: %d; want ErrNil", how, e)
				}
			}
		}
	}
}
