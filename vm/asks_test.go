package vm_test

import (
	"strings"
	"testing"

	"rookery/api"
	"rookery/vm"
)

// The chapter's examples.
func TestP20_2Examples(t *testing.T) {
	wantText(t, "an example", "main() -> f(3). f(X) -> X * X.", "end 9")
	wantText(t, "an example", "main() -> {A, A} = {1, 2}.", "fail {badmatch,{1,2}}")
	wantText(t, "an example", "main() -> self().", "call self/0() < give #p1.1.1", "end #p1.1.1")
	wantText(t, "an example of the whole", "main() -> say(1 + 2).", "call say/1(3) < give 3", "end 3")
	wantText(t, "an example of the whole", "main() -> P = spawn(2, f, []), P ! hi. f() -> receive X -> say(X) end.", "call spawn/3(2,f,[]) < give #p2.1.9", "send #p2.1.9 ! hi < pass", "end hi")
	wantText(t, "an example of the whole", "main() -> spawn(2, f, []).", "call spawn/3(2,f,[]) < fail noconnection", "fail noconnection")
	wantText(t, "an example of the whole", "main() -> cx(1, 2) * cx(3, - 1).", "end (5,5)")
}

// values of each kind, great ones too.
func values() []string {
	return []string{"0", "-4611686018427387904", "4611686018427387903", "(1,-2)", "(0,0)", "a", strings.Repeat("z", 32), "#r1.2.3", "#p64.4294967295.18446744073709551615", "{}", "{a,{1,[]}}", "[]", "[1,(2,3),\"x\"]", `""`, `"\x00\xff"`, "[" + repeated("1", 256) + "]", deep("", 24)}
}

// Each ask, with values of each kind in its fields.
func TestP20_2EachAsk(t *testing.T) {
	for _, v := range values() {
		wantOne(t, "AskEnd", "Push "+v+"; Ret", "end "+v)
		wantOne(t, "AskCall", "Push "+v+"; Bif say/1; Ret", "call say/1("+v+") < give 1", "end 1")
		wantOne(t, "AskSend", "Push "+v+"; Push to; Send; Ret", "send "+v+" ! to < pass", "end to")
		wantOne(t, "AskSend", "Push to; Push "+v+"; Send; Ret", "send to ! "+v+" < pass", "end "+v)
		wantOne(t, "AskTimer", "Push "+v+"; Timer; Push 1; Ret", "timer "+v+" < pass", "end 1")
		wantOne(t, "AskPeek", "Peek else 2; Ret; Push none; Ret", "peek < give "+v, "end "+v)
		wantOne(t, "AskNext", "Push "+v+"; Next; Push 1; Ret", "next "+v+" < pass", "end 1")
		wantOne(t, "AskTake", "Push "+v+"; Take; Push 1; Ret", "take "+v+" < pass", "end 1")
		wantOne(t, "AskFail", "Peek else 0; Ret", "peek < fail "+v, "fail "+v)
	}
	for _, f := range []string{"Bif self/0; Ret", "Push a; Push b; Bif spawn/2; Ret"} {
		for _, v := range values() {
			b := must(t, "AskCall's value", prog(f), 0)
			a := b.run()
			b.talkOn(askText(a)+" < give "+v, "end "+v)
		}
	}
}

// talkOn: talk of one that was run already.
func (b *both) talkOn(steps ...string) {
	b.t.Helper()
	first, answer, _ := strings.Cut(steps[0], " < ")
	if got := askText(b.run()); got != first {
		b.t.Errorf("P20.2: %s: of %s: %s; want %s", b.what, showFuns(b.q.funs), brief(got), brief(first))
	}
	how, x, _ := strings.Cut(answer, " ")
	if b.answer(how, read(x)) == api.OK {
		b.talk(steps[1:]...)
	}
}

// The values that were taken first, and what stands on the stack below them.
func TestP20_2AskedOfTheTop(t *testing.T) {
	wantOne(t, "AskSend", "Push 1; Push 2; Push 3; Push 4; Send; Tuple 3; Ret", "send 3 ! 4 < pass", "end {1,2,4}")
	wantOne(t, "AskCall of one", "Push 1; Push 2; Push 3; Bif link/1; Tuple 3; Ret", "call link/1(3) < give x", "end {1,2,x}")
	wantOne(t, "AskCall of two", "Push 1; Push 2; Push 3; Bif exit/2; Tuple 2; Ret", "call exit/2(2,3) < give x", "end {1,x}")
	wantOne(t, "AskCall of three", "Push 1; Push 2; Push 3; Push 4; Bif spawn/3; Tuple 2; Ret", "call spawn/3(2,3,4) < give x", "end {1,x}")
	wantOne(t, "AskCall of none", "Push 1; Push 2; Bif node/0; Tuple 3; Ret", "call node/0() < give x", "end {1,2,x}")
	wantOne(t, "AskTimer", "Push 1; Push 2; Push 3; Timer; Tuple 2; Ret", "timer 3 < pass", "end {1,2}")
	wantOne(t, "AskNext", "Push 1; Push 2; Push 3; Next; Tuple 2; Ret", "next 3 < pass", "end {1,2}")
	wantOne(t, "AskTake", "Push 1; Push 2; Push 3; Take; Tuple 2; Ret", "take 3 < pass", "end {1,2}")
	wantOne(t, "AskPeek, given", "Push 1; Peek else 5; Push 3; Tuple 3; Ret; Push none; Tuple 2; Ret", "peek < give x", "end {1,x,3}")
	wantOne(t, "AskPeek, passed", "Push 1; Peek else 5; Push 3; Tuple 3; Ret; Push none; Tuple 2; Ret", "peek < pass", "end {1,none}")
	wantOne(t, "AskPeek, passed back", "Push 1; Pop; Peek else 0; Ret", "peek < pass", "peek < pass", "peek < give x", "end x")
	wantOne(t, "AskPeek, passed to itself", "Peek else 0; Ret", "peek < pass", "peek < pass", "peek < pass", "peek < give x", "end x")
	wantOne(t, "AskEnd", "Push 1; Push 2; Push 3; Ret", "end 3")
}

// Each of the builtins from 1 to 19 is asked for, with its arguments in order;
// none from 20 on is.
func TestP20_2BuiltinsThatAsk(t *testing.T) {
	for i, name := range builtins {
		n := atoi(name[len(name)-1:])
		args := []string{"(1,2)", "{a,b}", "[c]"}[:n]
		f := "Push ahead; "
		for _, x := range args {
			f += "Push " + x + "; "
		}
		f += "Bif " + name + "; Tuple 2; Ret"
		b := must(t, name, prog(f), 0)
		a := b.run()
		if (a.Kind == vm.AskCall) != (i+1 < 20) {
			t.Errorf("P20.2: %s: %s", name, askText(a))
		}
		if a.Kind == vm.AskCall && a.N != i+1 {
			t.Errorf("P20.2: %s: the builtin %d; want %d", name, a.N, i+1)
		}
		if i+1 >= 20 {
			continue
		}
		wantOne(t, name, f, "call "+name+"("+strings.Join(args, ",")+") < give {back}", "end {ahead,{back}}")
		wantOne(t, name, f, "call "+name+"("+strings.Join(args, ",")+") < fail {back}", "fail {back}")
		call := name[:len(name)-2] + "(" + strings.Join([]string{"- 1", "b", "[c]"}[:n], ", ") + ")"
		wantText(t, name, "main() -> {"+call+"}.", "call "+name+"("+strings.Join([]string{"-1", "b", "[c]"}[:n], ",")+") < give 5", "end {5}")
	}
}

// What is not answered is asked again, as often as one likes; an end for ever.
func TestP20_2AskedAgain(t *testing.T) {
	for _, c := range []struct{ f, want string }{
		{"Push 1; Ret", "end 1"}, {"Push 1; Fail 2", "fail {case_clause,1}"}, {"Push a; Neg; Ret", "fail badarg"}, {"Bif self/0; Ret", "call self/0()"}, {"Push 1; Push 2; Bif claim/2; Ret", "call claim/2(1,2)"},
		{"Push 1; Push 2; Send; Ret", "send 1 ! 2"}, {"Push 1; Timer; Push 1; Ret", "timer 1"}, {"Peek else 0; Ret", "peek"}, {"Push 1; Next; Push 1; Ret", "next 1"}, {"Push 1; Take; Push 1; Ret", "take 1"},
	} {
		b := must(t, "again", prog(c.f), 0)
		for range 200 {
			if got := askText(b.run()); got != c.want {
				t.Fatalf("P20.2: of %s: %s; want %s", c.f, got, c.want)
			}
		}
	}
	b := must(t, "a turn is answered", prog("Jump 0"), 0)
	for range 50 {
		if got := askText(b.run()); got != "turn" {
			t.Fatalf("P20.2: of Jump 0: %s; want turn", got)
		}
	}
}

// A receive as layer 19 puts it: messages that don't fit are passed over.
func TestP20_2Receive(t *testing.T) {
	s := "main() -> X = 5, receive {X, Y} -> {ok, Y}; [A] -> A after 7 + 1 -> {late, X} end."
	wantText(t, "the first one fits", s, "timer 8 < pass", "peek < give {5,y}", "take {5,y} < pass", "end {ok,y}")
	wantText(t, "the second clause", s, "timer 8 < pass", "peek < give [y]", "take [y] < pass", "end y")
	wantText(t, "some do not fit", s, "timer 8 < pass", "peek < give {6,y}", "next {6,y} < pass", "peek < give 5", "next 5 < pass", "peek < give {5,5}", "take {5,5} < pass", "end {ok,5}")
	wantText(t, "none comes", s, "timer 8 < pass", "peek < give {6,y}", "next {6,y} < pass", "peek < pass", "end {late,5}")
	wantText(t, "it is exited", s, "timer 8 < pass", "peek < fail {killed}", "fail {killed}")
	wantText(t, "without an after", "main() -> {receive X -> X end}.", "timer infinity < pass", "peek < give z", "take z < pass", "end {z}")
	wantText(t, "without an after, passed", "main() -> {receive X -> X end}.", "timer infinity < pass", "peek < pass", "fail {timeout,timeout}")
	wantText(t, "a wrong time", "main() -> receive after a -> 1 end.", "timer a < fail badarg", "fail badarg")
	wantText(t, "sends", "main() -> a ! b ! c, {d} ! 1 + 1.", "send b ! c < pass", "send a ! c < pass", "send {d} ! 2 < pass", "end 2")
	wantText(t, "a send of what fails", "main() -> a ! (1 / 0).", "fail zero")
}
