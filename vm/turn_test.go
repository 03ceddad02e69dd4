package vm_test

import (
	"slices"
	"strings"
	"testing"

	"rookery/api"
	"rookery/vm"
)

// counted: codes by which one instruction that counts is done n times, and what
// stands behind them. The value 1 is on the stack ahead and behind.
func counted() map[string]func(n int) []string {
	times := func(s string) func(n int) []string {
		return func(n int) []string { return []string{"Push 1; " + strings.Repeat(s, n)} }
	}
	return map[string]func(n int) []string{
		"OCall": func(n int) []string {
			return []string{"Push 1; " + strings.Repeat("Call 1/1; ", n), "1(1): Load 0; Ret"}
		},
		"OBif that asks nothing":     times("Bif conj/1; "),
		"OMatch to its place, fits":  func(n int) []string { return []string{"Push 1; " + places("Match 1 else <@>; ", n)} },
		"OMatch back, fits":          times("Match _ else 1; "),
		"OMatch back, fits and asks": times("Match V0 else 1; "),
	}
}

// places: so many times s, in which <@> is the place of each.
func places(s string, n int) string {
	out := ""
	for i := range n {
		out += strings.ReplaceAll(s, "<@>", itoa(i+1))
	}
	return out
}

// turns: how many asks for a turn come ahead of the end, which is as want says.
func turns(t testing.TB, what string, l []api.Fun, want string) int {
	t.Helper()
	b := must(t, what, l, 0)
	n := 0
	a := b.run()
	for ; a.Kind == vm.AskTurn && n < 1000; n++ {
		a = b.run()
	}
	if got := askText(a); got != want {
		t.Errorf("P20.2: %s: of %s: %s; want %s", what, showFuns(l), got, want)
	}
	return n
}

// The 40th is done, ahead of the 41st a turn is asked for, and so on behind it.
func TestP20_2TurnsOfEach(t *testing.T) {
	for what, code := range counted() {
		for n, want := range map[int]int{0: 0, 1: 0, 39: 0, 40: 0, 41: 1, 79: 1, 80: 1, 81: 2, 120: 2, 121: 3, 400: 9, 401: 10} {
			l := code(n)
			l[0] = "0(1): " + l[0] + "Ret"
			if got := turns(t, what, prog(l...), "end 1"); got != want {
				t.Errorf("P20.2: %d times %s: %d turns; want %d", n, what, got, want)
			}
		}
	}
}

// Where an OMatch's or an OJump's A is above its own place, it does not count.
func TestP20_2TurnsForward(t *testing.T) {
	for what, s := range map[string]string{"OMatch forward, fits": "Match 1 else <@+>; ", "OMatch forward, fits not": "Match 2 else <@+>; ", "OJump forward": "Jump <@+>; ", "OLoad": "Load 0; Pop; ", "OTuple": "Tuple 1; Pop; Push 1; ", "OBin": "Push 0; Bin +; ", "ONeg": "Neg; Neg; "} {
		n := 600
		f := "0(1): Push 1; "
		for i := range n {
			f += strings.ReplaceAll(s, "<@+>", itoa(i+2))
		}
		if got := turns(t, what, prog(f+"Ret"), "end 1"); got != 0 {
			t.Errorf("P20.2: %d times %s: %d turns; want none", n, what, got)
		}
	}
}

// One function's loop: of an OJump back, of one to itself, of an OMatch that does
// not fit.
func TestP20_2TurnsOfLoops(t *testing.T) {
	for what, f := range map[string]string{
		"OJump to itself": "Jump 0", "OJump back": "Push 1; Pop; Jump 0", "OJump back by two": "Jump <x>; <y>:; Jump <x>; <x>:; Jump <y>", "OMatch to itself": "Push 1; Match 2 else 1; Ret", "OMatch back": "Push 1; Push 2; Pop; Match 2 else 1; Ret",
		"OTail of itself": "Tail 0/0", "OMatch back and OJump back": "Push 1; <x>:; Match 1 else <x>; Jump <x>",
	} {
		b := must(t, what, prog(f), 0)
		for range 20 {
			if a := b.run(); a.Kind != vm.AskTurn {
				t.Errorf("P20.2: %s: %s; want turn", what, askText(a))
			}
			b.refuses(vm.AskTurn)
		}
	}
	// two count in each round, so that both are met at a turn.
	wantOne(t, "one to itself, behind a loop", "Push 1; <x>:; Match 2 else <y>; Ret; <y>:; Pop; Push 2; Jump <x>", "end 2")
	loop := must(t, "OTail of another", prog("Tail 1/0", "Tail 0/0"), 0)
	for range 20 {
		loop.run()
	}
	if d := loop.p.Depth(); d != 1 {
		t.Errorf("P20.3: Depth behind tail calls: %d; want 1", d)
	}
}

// marked: a code in which n count, with an ask ahead and one behind each of them.
func marked(n int) string {
	f := ""
	for i := range n {
		f += "Push " + itoa(i) + "; Timer; Push 1; Match 1 else " + itoa(5*i+3) + "; Timer; "
	}
	return f
}

// The turn is asked for ahead of the 41st, and nothing is done twice.
func TestP20_2TurnsPlace(t *testing.T) {
	b := must(t, "places of turns", prog(marked(130)+"Push end; Ret"), 0)
	var want []string
	for i := range 130 {
		want = append(want, "timer "+itoa(i)+" < pass")
		if i == 40 || i == 80 || i == 120 {
			want = append(want, "turn")
		}
		want = append(want, "timer 1 < pass")
	}
	b.talk(append(want, "end end")...)
}

// Asks in between begin nothing anew, whatever they are answered; a turn does.
func TestP20_2TurnsAcrossAsks(t *testing.T) {
	for _, c := range []struct{ name, f, ask, answer string }{
		{"AskCall", "Bif self/0; Pop; ", "call self/0()", "give 1"}, {"AskSend", "Push 1; Push 2; Send; Pop; Push 1; Bif conj/1; Pop; ", "send 1 ! 2", "pass"}, {"AskTimer", "Push 1; Timer; Push 1; Bif conj/1; Pop; ", "timer 1", "pass"},
		{"AskNext", "Push 1; Next; Push 1; Bif conj/1; Pop; ", "next 1", "pass"}, {"AskTake", "Push 1; Take; Push 1; Bif conj/1; Pop; ", "take 1", "pass"},
	} {
		var want []string
		for i := range 90 {
			if c.name == "AskCall" && (i == 40 || i == 80) {
				want = append(want, "turn")
			}
			want = append(want, c.ask+" < "+c.answer)
			if c.name != "AskCall" && (i == 40 || i == 80) {
				want = append(want, "turn")
			}
		}
		wantOne(t, c.name, strings.Repeat(c.f, 90)+"Push 1; Ret", append(want, "end 1")...)
	}
	peek := "<p>:; Peek else <p>; Pop; Push 1; Bif conj/1; Pop; "
	var want []string
	for i := range 45 {
		want = append(want, "peek < pass", "peek < give 1")
		if i == 40 {
			want = append(want, "turn")
		}
	}
	f := ""
	for i := range 45 {
		f += strings.ReplaceAll(peek, "<p>", "<p"+itoa(i)+">")
	}
	wantOne(t, "AskPeek", f+"Push 1; Ret", append(want, "end 1")...)
}

// The instructions that count add up, whichever they are, and in whichever frame.
func TestP20_2TurnsTogether(t *testing.T) {
	// each round: a match back, a call, in it a tail call, in it a builtin; a match
	// that does not count; and, but in the last one, a jump back.
	l := []string{"0(1): Push 0; <x>:; Match V0 else <x>; Call 1/1; Match 61 else <y>; Ret; <y>:; Jump <x>", "1(1): Load 0; Tail 2/1", "1(1): Load 0; Bif conj/1; Push 1; Bin +; Ret"}
	if got, want := turns(t, "together", prog(l...), "end 61"), (61*5-1-1)/40; got != want {
		t.Errorf("P20.2: %d turns; want %d", got, want)
	}
	for n := range 100 {
		// n of one kind, then 41 - n of another one, and so on.
		f := "0(1): Push 1; " + strings.Repeat("Match 1 else 1; ", n) + strings.Repeat("Bif conj/1; ", 100-n) + strings.Repeat("Call 1/1; ", n)
		if got, want := turns(t, "together", prog(f+"Ret", "1(1): Load 0; Ret"), "end 1"), (100+n-1)/40; got != want {
			t.Errorf("P20.2: %d and %d and %d times: %d turns; want %d", n, 100-n, n, got, want)
		}
	}
}

// A turn ahead of a call that fails for its depth, and ahead of a builtin that
// fails or asks.
func TestP20_2TurnsAheadOfFailures(t *testing.T) {
	forty := "Push 1; " + strings.Repeat("Bif conj/1; ", 40)
	wantOne(t, "a builtin that fails", forty+"Bif hd/1; Ret", "turn", "fail badarg")
	wantOne(t, "a builtin that asks", forty+"Bif say/1; Ret", "turn", "call say/1(1) < give 2", "end 2")
	wantOne(t, "one that does not count", forty+"Neg; Ret", "end -1")
	wantOne(t, "a jump back", strings.Replace(forty, "; ", "; <x>:; ", 1)+"Jump <x>", slices.Repeat([]string{"turn"}, 10)...)
	// 99 calls are done behind two turns; the 100th fails: 40, 40 and 20 of them.
	wantTalk(t, "a call that fails", []string{"Call 0/0; Ret"}, "turn", "turn", "fail system_limit")
	// with 21 more ahead of it, the one that fails is the first behind a turn.
	wantTalk(t, "a call that fails behind a turn", []string{"Push 1; " + strings.Repeat("Bif conj/1; ", 21) + "Pop; Call 1/0; Ret", "Call 1/0; Ret"}, "turn", "turn", "turn", "fail system_limit")
	wantTalk(t, "a call that fails ahead of a turn", []string{"Push 1; " + strings.Repeat("Bif conj/1; ", 20) + "Pop; Call 1/0; Ret", "Call 1/0; Ret"}, "turn", "turn", "fail system_limit")
}
