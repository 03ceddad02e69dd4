package vm_test

import (
	"strings"
	"testing"

	"rookery/api"
	"rookery/vm"
)

// wantDepth: behind the next ask there are so many frames.
func (b *both) wantDepth(ask string, depth int) {
	b.t.Helper()
	if got := askText(b.run()); got != ask {
		b.t.Errorf("P20.2: %s: of %s: %s; want %s", b.what, showFuns(b.q.funs), brief(got), brief(ask))
	}
	if got := b.p.Depth(); got != depth {
		b.t.Errorf("P20.3: %s: of %s: Depth behind %s: %d; want %d", b.what, showFuns(b.q.funs), brief(ask), got, depth)
	}
}

// give answers what is asked; the depth stays.
func (b *both) give(how, x string) {
	b.t.Helper()
	was := b.p.Depth()
	if e := b.answer(how, read(x)); e != api.OK {
		b.t.Errorf("P20.3: %s: %s %s: %d", b.what, how, x, e)
	}
	if how == "fail" {
		was = 0
	}
	if got := b.p.Depth(); got != was {
		b.t.Errorf("P20.3: %s: Depth behind %s: %d; want %d", b.what, how, got, was)
	}
}

func TestP20_2Calls(t *testing.T) {
	wantTalk(t, "a call of none", []string{"Push 1; Call 1/0; Push 3; Tuple 3; Ret", "Push 8; Push 2; Ret"}, "end {1,2,3}")
	wantTalk(t, "a call of two", []string{"Push 1; Push 2; Push 3; Call 1/2; Tuple 2; Ret", "2(2): Load 1; Load 0; List 2; Ret"}, "end {1,[3,2]}")
	var args, back []string
	for i := range 8 {
		args = append(args, "Push "+itoa(i)+"; ")
		back = append(back, "Load "+itoa(i)+"; ")
	}
	wantTalk(t, "a call of eight", []string{strings.Join(args, "") + "Call 1/8; Ret", "8(9): " + strings.Join(back, "") + "Load 8; Tuple 9; Ret"}, "end {0,1,2,3,4,5,6,7,undefined}")
	wantTalk(t, "a tail call of eight", []string{strings.Join(args, "") + "Tail 1/8", "8(8): " + strings.Join(back, "") + "List 8; Ret"}, "end [0,1,2,3,4,5,6,7]")
	wantTalk(t, "a tail call of the top", []string{"Push 1; Push 2; Push 3; Tail 1/1", "1(1): Load 0; Ret"}, "end 3")
	wantTalk(t, "functions by their numbers", []string{"Call 2/0; Call 1/0; Call 3/0; Tuple 3; Ret", "Push one; Ret", "Push two; Ret", "Tail 1/0"}, "end {two,one,one}")
	l := prog("Push a; Ret", "1(1): Load 0; Ret", "Push c; Call 1/1; Call 0/0; Tuple 2; Ret")
	must(t, "the last function begins", l, 2).talk("end {c,a}")
	wantText(t, "functions of one name", "main() -> {f(), f(1), f(1, 2)}. f() -> 0. f(X) -> [X]. f(X, Y) -> [Y, X].", "end {0,[1],[2,1]}")
	wantText(t, "a call among others", "main() -> 1 + f(2) * f(3). f(X) -> X * X.", "end 37")
	wantText(t, "arguments from the left to the right", "main() -> f(a ! 1, b ! 2). f(X, Y) -> Y ! X.", "send a ! 1 < pass", "send b ! 2 < pass", "send 2 ! 1 < pass", "end 1")
}

// Calls within calls, up to MaxFrames: the hundredth frame may be, one more fails.
func TestP20_2MaxFrames(t *testing.T) {
	down := "1(1): Load 0; Match 0 else <on>; Ret; <on>:; Push -1; Bin +; Call 0/1; Push 1; Bin +; Ret"
	for n, want := range map[string]string{"0": "end 0", "1": "end 1", "50": "end 50", "98": "end 98", "99": "end 99", "100": "fail system_limit", "101": "fail system_limit", "1000": "fail system_limit"} {
		b := must(t, "frames", prog(down), 0, read(n))
		if got := askText(b.on()); got != want || b.p.Depth() != 0 {
			t.Errorf("P20.2: a call that calls itself %s times: %s, Depth %d; want %s", n, got, b.p.Depth(), want)
		}
	}
}

// With 100 frames an OTail may be, and an OCall of any function fails.
func TestP20_2WithAllFrames(t *testing.T) {
	// f0(n) calls itself till there are as many frames as that, and waits there.
	wait := "1(1): Load 0; Match 1 else <on>; Pop; Push at; Timer; %; Ret; <on>:; Push -1; Bin +; Call 0/1; Ret"
	other := "0(2): Push other; Timer; Push 5; Ret"
	for _, c := range []struct {
		code   string
		frames int
		want   []string
	}{
		{"Call 1/0", 99, []string{"timer other < pass", "end 5"}}, {"Call 1/0", 100, []string{"fail system_limit"}}, {"Tail 1/0; Push 1", 100, []string{"timer other < pass", "end 5"}}, {"Tail 1/0; Push 1", 99, []string{"timer other < pass", "end 5"}},
		{"Push 1; Call 0/1", 100, []string{"fail system_limit"}}, {"Push 1; Tail 0/1; Push 1", 100, []string{"timer at < fail enough", "fail enough"}}, {"Bif self/0", 100, []string{"call self/0() < give 7", "end 7"}}, {"Push [1]; Bif hd/1", 100, []string{"end 1"}}, {"Push 6", 100, []string{"end 6"}},
	} {
		b := must(t, "with frames", prog(strings.Replace(wait, "%", c.code, 1), other), 0, read(itoa(c.frames)))
		if got := askText(b.on()); got != "timer at" || b.p.Depth() != c.frames {
			t.Fatalf("P20.2: %s, Depth %d; want timer at, %d", got, b.p.Depth(), c.frames)
		}
		b.give("pass", "ok")
		for _, step := range c.want {
			want, answer, answered := strings.Cut(step, " < ")
			if got := askText(b.on()); got != want {
				t.Errorf("P20.2: %s with %d frames: %s; want %s", c.code, c.frames, got, want)
			}
			if answered {
				how, x, _ := strings.Cut(answer+" ok", " ")
				b.give(how, strings.Fields(x)[0])
			}
		}
	}
}

// Depth at each place: it tells frames, whatever is asked and answered.
func TestP20_3Depth(t *testing.T) {
	l := prog("Push a; Timer; Call 1/0; Timer; Push 1; Ret", "Bif self/0; Tail 2/1", "1(1): Load 0; Next; Call 3/0; Take; Peek else <x>; Ret; <x>:; Push 2; Ret", "Push 1; Push 2; Send; Ret")
	b := must(t, "Depth", l, 0)
	if d := b.p.Depth(); d != 1 {
		t.Errorf("P20.3: Depth of a new one: %d; want 1", d)
	}
	b.wantDepth("timer a", 1)
	b.give("pass", "a")
	b.wantDepth("call self/0()", 2)
	b.give("give", "s")
	b.wantDepth("next s", 2)
	b.give("pass", "a")
	b.wantDepth("send 1 ! 2", 3)
	b.give("pass", "a")
	b.wantDepth("take 2", 2)
	b.give("pass", "a")
	b.wantDepth("peek", 2)
	b.give("pass", "a")
	b.wantDepth("timer 2", 1)
	b.give("pass", "a")
	b.wantDepth("end 1", 0)
	b.wantDepth("end 1", 0)
	for _, f := range []string{"Push a; Neg; Ret", "Push a; Fail 1"} {
		b := must(t, "Depth", prog("Call 1/0; Ret", f), 0)
		if a := b.run(); a.Kind != vm.AskFail || b.p.Depth() != 0 {
			t.Errorf("P20.3: Depth of one that failed: %d", b.p.Depth())
		}
	}
	for _, f := range []string{"Bif self/0; Ret", "Push a; Push b; Send; Ret", "Push a; Timer; Push b; Ret", "Peek else 0; Ret", "Push a; Next; Push b; Ret", "Push a; Take; Push b; Ret"} {
		b := must(t, "Depth", prog("Call 1/0; Ret", f), 0)
		b.run()
		b.give("fail", "bad")
		b.wantDepth("fail bad", 0)
	}
	turns := must(t, "Depth at turns", prog("Call 0/0; Ret"), 0)
	turns.wantDepth("turn", 41)
	turns.wantDepth("turn", 81)
	turns.wantDepth("fail system_limit", 0)
	turns.wantDepth("fail system_limit", 0)
}

// ORet gives its value to the frame ahead, whose stack and slots are as they were.
func TestP20_2Ret(t *testing.T) {
	wantOne(t, "in the only frame", "Push 1; Push 2; Push 3; Ret", "end 3")
	wantTalk(t, "in another one", []string{"0(1): Push here; Match V0 else <x>; <x>:; Pop; Push 1; Push 2; Call 1/1; Load 0; Tuple 3; Ret", "1(3): Push 7; Match V2 else <x>; <x>:; Pop; Push 8; Load 0; Load 2; Tuple 2; Ret"}, "end {1,{2,7},here}")
	wantTalk(t, "in a third one", []string{"Push 1; Call 1/0; Tuple 2; Ret", "Push 2; Call 2/0; Tuple 2; Ret", "Push 3; Push 4; Ret"}, "end {1,{2,4}}")
}

// What goes on behind each of a call's ends.
func TestP20_2Frames(t *testing.T) {
	chain := []string{"Push 0; Push a; Call 1/1; Tuple 2; Ret"}
	want := "{stop,9}"
	for i := range 9 {
		chain = append(chain, "1(2): Push "+itoa(i)+"; Match V1 else <x>; <x>:; Pop; Load 0; Push "+itoa(i)+"; Tuple 2; Call "+itoa(i+2)+"/1; Load 1; List 2; Ret")
	}
	chain = append(chain, "1(1): Push stop; Push 9; Tuple 2; Ret")
	for i := range 9 {
		want = "[" + want + "," + itoa(8-i) + "]"
	}
	b := must(t, "a chain of calls", prog(chain...), 0)
	if got := askText(b.on()); got != "end {0,"+want+"}" {
		t.Errorf("P20.2: a chain of calls: %s; want end {0,%s}", got, want)
	}
	wantText(t, "tail calls in a loop", "main() -> f(500, []). f(N, L) -> case N of 0 -> len(L); _ -> f(N - 1, [N]) end.", append(turnsOf(502), "end 1")...)
	wantText(t, "calls that are not last", "main() -> f(50). f(N) -> case N of 0 -> 0; _ -> 1 + f(N - 1) end.", "turn", "end 50")
}
