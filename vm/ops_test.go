package vm_test

import (
	"math"
	"slices"
	"strings"
	"testing"

	"rookery/api"
	"rookery/term"
)

// wantEnd: a code, behind which an ORet is put, comes to this value.
func wantEnd(t testing.TB, what, code, want string) {
	t.Helper()
	wantOne(t, what, code+"; Ret", "end "+want)
}

func wantFail(t testing.TB, what, code, want string) {
	t.Helper()
	wantOne(t, what, code+"; Ret", "fail "+want)
	wantTalk(t, what+", in a call", []string{"Push 1; Call 1/0; Tuple 2; Ret", code + "; Ret"}, "fail "+want)
}

func TestP20_2PushLoadPop(t *testing.T) {
	for _, v := range values() {
		wantEnd(t, "OPush", "Push "+v, v)
		wantEnd(t, "OPush twice", "Push "+v+"; Push 1; Push "+v+"; Pop; Pop", v)
	}
	for _, x := range rightTerms() {
		f := prog("Push 1; Ret")
		f[0].Ins[0].T = x
		must(t, "OPush", f, 0).talk("end " + show(x))
		must(t, "OLoad", prog("1(1): Load 0; Ret"), 0, x).talk("end " + show(x))
	}
	f := prog("3(5): Load 2; Load 0; Load 4; Load 1; Load 3; Load 0; Tuple 6; Ret")
	must(t, "OLoad", f, 0, readAll("a", "[b]", "{c}")...).talk("end {{c},a,undefined,[b],undefined,a}")
	wantEnd(t, "OPop", "Push 1; Push 2; Push 3; Pop; Push 4; Push 5; Pop; Pop; Tuple 2", "{1,2}")
	must(t, "the last slot", prog("0(72): Push 1; Match V71 else <x>; <x>:; Pop; Load 71; Load 70; Tuple 2; Ret"), 0).talk("end {1,undefined}")
}

func TestP20_2TuplesAndLists(t *testing.T) {
	for _, n := range []int{0, 1, 2, 3, 10, 100, 255, 256} {
		code := "Push ahead; Push next; "
		var want []string
		for i := range n {
			code += "Push " + itoa(i) + "; "
			want = append(want, itoa(i))
		}
		wantEnd(t, "OTuple", code+"Tuple "+itoa(n)+"; Tuple 3", "{ahead,next,{"+strings.Join(want, ",")+"}}")
		wantEnd(t, "OList", code+"List "+itoa(n)+"; List 3", "[ahead,next,["+strings.Join(want, ",")+"]]")
	}
	for _, v := range values()[:12] {
		wantEnd(t, "OTuple of each kind", "Push "+v+"; Push 1; Push "+v+"; Tuple 3", "{"+v+",1,"+v+"}")
		wantEnd(t, "OList of each kind", "Push "+v+"; Push 1; Push "+v+"; List 3", "["+v+",1,"+v+"]")
	}
	for _, op := range []string{"Tuple ", "List "} {
		end := "end {%}"
		if op == "List " {
			end = "end [%]"
		}
		value := func(s string) string { return strings.Replace(end, "%", s, 1) }
		full := "[" + repeated("1", 254) + "]" // of the size 255
		wantOne(t, "as deep as may be", "Push "+deep("1", 22)+"; "+op+"1; Ret", value(deep("1", 22)))
		wantOne(t, "too deep", "Push "+deep("1", 23)+"; "+op+"1; Ret", "fail system_limit")
		wantOne(t, "too deep", "Push "+deep("", 24)+"; "+op+"1; Ret", "fail system_limit")
		wantOne(t, "too deep, the last one", "Push 1; Push 2; Push "+deep("", 24)+"; "+op+"3; Ret", "fail system_limit")
		great := "Push [" + repeated(full, 16) + "]; " // of the size 4081
		wantOne(t, "as great as may be", great+strings.Repeat("Push 1; ", 14)+op+"15; Ret", value("["+repeated(full, 16)+"],"+repeated("1", 14)))
		wantOne(t, "too great", great+strings.Repeat("Push 1; ", 15)+op+"16; Ret", "fail system_limit")
		wantOne(t, "too great, twice the same", great+great+op+"2; Ret", "fail system_limit")
		for n, want := range map[int]string{4094: "end", 4095: "fail system_limit"} {
			f := prog("Push 1; " + op + "1; Ret")
			f[0].Ins[0].T = term.Bytes(make([]byte, n))
			if a := must(t, "bytes", f, 0).on(); !strings.HasPrefix(askText(a), want) {
				t.Errorf("P20.2: %sof %d bytes: %s; want %s", op, n, brief(askText(a)), want)
			}
		}
	}
	// it fails by the one that is too deep first, and goes no further.
	wantTalk(t, "in a call", []string{"Call 1/0; Timer; Push 1; Ret", "Push " + deep("", 24) + "; List 1; Timer; Push 1; Ret"}, "fail system_limit")
}

func TestP20_2BinOfInts(t *testing.T) {
	max, min := "4611686018427387903", "-4611686018427387904"
	for _, c := range []struct{ a, sign, b, want string }{
		{"1", "+", "2", "3"}, {max, "+", "0", max}, {max, "+", "1", "range"}, {min, "+", "-1", "range"}, {max, "+", min, "-1"}, {max, "+", max, "range"},
		{"1", "-", "2", "-1"}, {min, "-", "1", "range"}, {"0", "-", min, "range"}, {"-1", "-", min, max}, {min, "-", min, "0"},
		{"7", "*", "-6", "-42"}, {max, "*", "1", max}, {max, "*", "2", "range"}, {min, "*", "-1", "range"}, {"2147483648", "*", "2147483648", "range"}, {"2147483648", "*", "-2147483648", min}, {"4294967296", "*", "4294967296", "range"}, {max, "*", max, "range"}, {min, "*", "0", "0"},
		{"7", "/", "-2", "-3"}, {"-7", "/", "2", "-3"}, {"7", "/", "2", "3"}, {min, "/", "-1", "range"}, {min, "/", "1", min}, {"1", "/", "0", "zero"}, {"0", "/", "0", "zero"}, {"0", "/", "5", "0"},
		{"7", "rem", "-2", "1"}, {"-7", "rem", "2", "-1"}, {"7", "rem", "4", "3"}, {min, "rem", "-1", "0"}, {"1", "rem", "0", "zero"}, {"0", "rem", "0", "zero"},
	} {
		wantNumber(t, c.a, c.sign, c.b, c.want)
	}
}

// wantNumber: want is a number, or a reason.
func wantNumber(t testing.TB, a, sign, b, want string) {
	t.Helper()
	code := "Push " + a + "; Push " + b + "; Bin " + sign
	if read(want).Kind == api.KAtom {
		wantFail(t, "OBin", code, want)
		return
	}
	want = show(read(want))
	wantEnd(t, "OBin", code, want)
	wantEnd(t, "OBin", "Push ahead; "+code+"; Tuple 2", "{ahead,"+want+"}")
}

func TestP20_2BinOfComplex(t *testing.T) {
	for _, c := range []struct{ a, sign, b, want string }{
		{"(1,2)", "+", "(3,-1)", "(4,1)"}, {"1", "+", "(0,2)", "(1,2)"}, {"(0,2)", "+", "1", "(1,2)"}, {"(1,2)", "-", "(3,-1)", "(-2,3)"}, {"1", "-", "(0,2)", "(1,-2)"}, {"(1,2)", "*", "(3,-1)", "(5,5)"}, {"(0,1)", "*", "(0,1)", "(-1,0)"}, {"2", "*", "(1,2)", "(2,4)"},
		{"(5,5)", "/", "(3,-1)", "(1,2)"}, {"1", "/", "(0,1)", "(0,-1)"}, {"(1,2)", "/", "2", "(0.5,1)"}, {"(1,2)", "/", "0", "zero"}, {"(1,2)", "/", "(0,0)", "zero"}, {"1", "/", "(0,0)", "zero"}, {"(0,0)", "/", "(0,0)", "zero"},
		{"(1e308,0)", "+", "(1e308,0)", "range"}, {"(1e308,0)", "*", "(0,1e308)", "range"}, {"(1e308,0)", "-", "(-1e308,0)", "range"}, {"1", "/", "(1e-300,0)", "range"}, {"(1,0)", "-", "(1,0)", "(0,0)"}, {"(-1,0)", "*", "0", "(0,0)"},
		{"(1,2)", "rem", "(1,0)", "badarg"}, {"(1,2)", "rem", "3", "badarg"}, {"3", "rem", "(1,0)", "badarg"}, {"(1,2)", "rem", "0", "badarg"},
		{"4611686018427387903", "+", "(0,1)", "(4611686018427387904,1)"}, {"9007199254740993", "+", "(0,0)", "(9007199254740992,0)"}, {"9007199254740995", "+", "(0,0)", "(9007199254740996,0)"},
	} {
		wantNumber(t, c.a, c.sign, c.b, c.want)
	}
}

// others: of each kind, but numbers.
func others() []string {
	return []string{"a", "infinity", "#r1.1.1", "#p1.1.1", "{}", "{1}", "[]", "[1,2]", `""`, `"12"`}
}

func TestP20_2BinOfOthers(t *testing.T) {
	for _, sign := range signs[:5] {
		for _, x := range others() {
			for _, n := range []string{"1", "0", "(1,1)", "4611686018427387903", x} {
				wantNumber(t, x, sign, n, "badarg")
				wantNumber(t, n, sign, x, "badarg")
			}
		}
	}
}

func TestP20_2Neg(t *testing.T) {
	for _, c := range [][2]string{{"0", "0"}, {"1", "-1"}, {"-7", "7"}, {"4611686018427387903", "-4611686018427387903"}, {"-4611686018427387903", "4611686018427387903"}, {"(1,-2)", "(-1,2)"}, {"(0,0)", "(0,0)"}, {"(0,3)", "(0,-3)"}} {
		wantEnd(t, "ONeg", "Push "+c[0]+"; Neg", c[1])
		wantEnd(t, "ONeg", "Push ahead; Push "+c[0]+"; Neg; Tuple 2", "{ahead,"+c[1]+"}")
	}
	wantFail(t, "ONeg", "Push -4611686018427387904; Neg", "range")
	for _, x := range others() {
		wantFail(t, "ONeg", "Push "+x+"; Neg", "badarg")
	}
}

// inOrder: right terms, each ahead of the next.
func inOrder() []string {
	return []string{"-4611686018427387904", "-1", "0", "1", "9", "4611686018427387903", "(-1e+300,0)", "(0,-1)", "(0,0)", "(0,1)", "(1,-9)", "(1,0)", "a", "aB", "a_", "aa", "b", "true", "#r1.1.1", "#r1.1.2", "#r1.2.1", "#r2.1.1", "#p1.1.1", "#p1.2.1", "#p64.1.1",
		"{}", "{1}", "{9}", "{{}}", "{1,1}", "{1,a}", "{a,1}", "{1,1,1}", "[]", "[1]", "[1,1]", "[1,1,1]", "[1,a]", "[9]", "[a]", "[{9}]", "[{1,1}]", "[[]]", "[[1]]", `""`, `"\x00"`, `"a"`, `"aa"`, `"b"`, `"\xff"`}
}

func TestP20_2Comparisons(t *testing.T) {
	l := inOrder()
	for i, a := range l {
		for k, b := range l {
			var code, want []string
			for _, sign := range signs[5:] {
				code = append(code, "Push "+a, "Push "+b, "Bin "+sign)
			}
			for _, is := range []bool{i == k, i != k, i < k, i > k, i <= k, i >= k} {
				if is {
					want = append(want, "true")
				} else {
					want = append(want, "false")
				}
			}
			wantEnd(t, "comparisons", strings.Join(code, "; ")+"; Tuple 6", "{"+strings.Join(want, ",")+"}")
		}
	}
	wantText(t, "comparisons", "main() -> {1 == 1, 1 /= 1, 1 < 1, 1 > 1, 1 =< 1, 1 >= 1}.", "end {true,false,false,false,true,true}")
	wantText(t, "an int is no complex number", "main() -> {1 == cx(1, 0), 1 < cx(0, 0), 1 /= cx(1, 0)}.", "end {false,true,true}")
}

func TestP20_2Jump(t *testing.T) {
	wantOne(t, "OJump ahead", "Jump <x>; Push 1; Ret; <x>:; Push 2; Ret", "end 2")
	wantOne(t, "OJump back", "Jump <x>; <y>:; Push 1; Ret; <x>:; Jump <y>", "end 1")
	wantOne(t, "OJump to the one behind", "Push 1; Jump <x>; <x>:; Ret", "end 1")
	wantOne(t, "OJump with a stack", "Push 1; Push 2; Jump <x>; <y>:; Tuple 2; Ret; <x>:; Push 3; Push 4; Pop; Pop; Jump <y>", "end {1,2}")
	wantOne(t, "OJump to the last one", "Push 1; Jump 3; Push 2; Ret", "end 1")
	wantOne(t, "instructions that nothing leads to", "Jump <x>; Ret; Send; Pop; Call 0/0; <x>:; Push 2; Ret", "end 2")
}

// OFail's reasons, and one that is no right term.
func TestP20_2Fail(t *testing.T) {
	for i, word := range []string{"badmatch", "case_clause", "timeout"} {
		f := "; Fail " + itoa(i+1)
		for _, v := range values()[:16] {
			wantOne(t, "OFail", "Push "+v+f, "fail {"+word+","+v+"}")
			wantOne(t, "OFail of the top", "Push 1; Push "+v+f, "fail {"+word+","+v+"}")
			wantTalk(t, "OFail in a call", []string{"Push 1; Call 1/0; Tuple 2; Ret", "Push " + v + f}, "fail {"+word+","+v+"}")
		}
		wantOne(t, "as deep as may be", "Push "+deep("", 23)+f, "fail {"+word+","+deep("", 23)+"}")
		wantOne(t, "too deep", "Push "+deep("", 24)+f, "fail system_limit")
		full := "[" + repeated("["+repeated("1", 254)+"]", 16) + "]" // of the size 4081
		great := func(n int) string { return "{" + full + "," + repeated("1", n-4082) + "}" }
		wantOne(t, "as great as may be", "Push "+great(4094)+f, "fail {"+word+","+great(4094)+"}")
		wantOne(t, "too great", "Push "+great(4095)+f, "fail system_limit")
		wantOne(t, "too great", "Push "+great(4096)+f, "fail system_limit")
	}
	wantText(t, "an expression that fits nothing", "main() -> {1, X} = {2, a}.", "fail {badmatch,{2,a}}")
	wantText(t, "a case that fits nothing", "main() -> case {2, a} of 1 -> 1; {X} -> X end.", "fail {case_clause,{2,a}}")
	wantText(t, "nothing came", "main() -> receive X -> X end.", "timer infinity < pass", "peek < pass", "fail {timeout,timeout}")
}

// Behind a failure nothing is done any more, in no frame.
func TestP20_2NothingBehindFailures(t *testing.T) {
	for what, f := range map[string]string{"OBin": "Push 1; Push 0; Bin /", "ONeg": "Push a; Neg", "OTuple": "Push " + deep("", 24) + "; Tuple 1", "OFail": "Push 1; Fail 1", "a builtin": "Push 1; Bif hd/1"} {
		l := []string{"Call 1/0; Timer; Push 1; Ret", "Call 2/0; Timer; Push 2; Ret", f}
		if what != "OFail" {
			l[2] += "; Timer; Push 3; Ret"
		}
		b := must(t, what, prog(l...), 0)
		for range 5 {
			if a := b.run(); !strings.HasPrefix(askText(a), "fail ") || b.p.Depth() != 0 {
				t.Errorf("P20.2: behind a failure of %s: %s, Depth %d", what, askText(a), b.p.Depth())
			}
		}
		b.refuses(0)
	}
}

// As many values as may be on one stack, and in all frames.
func TestP20_2GreatStacks(t *testing.T) {
	parts := make([]string, 300)
	for i := range parts {
		parts[i] = "Push " + itoa(i)
	}
	f := strings.Join(parts, "; ") + "; Tuple 45; Tuple 256; Ret"
	var low, high []string
	for i := range 255 {
		low = append(low, itoa(i))
	}
	for i := 255; i < 300; i++ {
		high = append(high, itoa(i))
	}
	wantOne(t, "300 values", f, "end {"+strings.Join(low, ",")+",{"+strings.Join(high, ",")+"}}")
	deepest := "1(1): " + strings.Repeat("Push x; ", 297) + "Load 0; Match 98 else <on>; Jump <out>; <on>:; Push 1; Bin +; Call 1/1; <out>:; Ret"
	b := must(t, "all frames", prog("Push 0; Call 1/1; Ret", deepest), 0)
	if got := askText(b.on()); got != "end 98" {
		t.Errorf("P20.2: 100 frames of 298 values: %s", got)
	}
}

// A NaN, an infinity or a -0 never comes of what is right.
func TestP20_2NumbersStayRight(t *testing.T) {
	l := []string{"0", "1", "-1", "4611686018427387903", "-4611686018427387904", "(0,0)", "(0,1)", "(-1,0)", "(1e308,1e308)", "(5e-324,-5e-324)", "(-1e-200,1e200)", "(1.7976931348623157e308,0)"}
	for _, a := range l {
		for _, b := range l {
			for _, sign := range signs[:5] {
				x := must(t, "OBin", prog("Push "+a+"; Push "+b+"; Bin "+sign+"; Ret"), 0).on()
				if term.Check(x.T) != api.OK || math.IsNaN(real(x.T.Z)) {
					t.Errorf("P20.2: %s %s %s: %s", a, sign, b, askText(x))
				}
			}
		}
	}
	if !slices.Equal(signs[5:], strings.Fields("== /= < > =< >=")) {
		t.Error("the signs stand in another order")
	}
}
