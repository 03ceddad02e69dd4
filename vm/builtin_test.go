package vm_test

import (
	"strings"
	"testing"

	"rookery/api"
	"rookery/term"
)

// wantBuiltin: args are handed in, and what it comes to is as askText tells it.
// What stands on the stack below them stays.
func wantBuiltin(t testing.TB, name, args, want string) {
	t.Helper()
	l := read("[" + args + "]").L
	code := ""
	for _, x := range l {
		code += "Push " + show(x) + "; "
	}
	code += "Bif " + name + "/" + itoa(len(l)) + "; "
	how, x, _ := strings.Cut(want, " ")
	want = how + " " + show(read(x))
	wantOne(t, name, code+"Ret", want)
	if how == "end" && term.Check(term.Tuple(read(x))) == api.OK {
		wantOne(t, name, "Push ahead; "+code+"Tuple 2; Ret", "end {ahead,"+show(read(x))+"}")
	}
}

func TestP20_2Cx(t *testing.T) {
	for _, c := range [][2]string{
		{"1,2", "(1,2)"}, {"0,0", "(0,0)"}, {"-1,3", "(-1,3)"}, {"4611686018427387903,-4611686018427387904", "(4611686018427387904,-4611686018427387904)"}, {"9007199254740993,9007199254740995", "(9007199254740992,9007199254740996)"}, {"-9007199254740993,9007199254740992", "(-9007199254740992,9007199254740992)"}, {"4611686018427387647,4611686018427387648", "(4611686018427387392,4611686018427387904)"},
	} {
		wantBuiltin(t, "cx", c[0], "end "+c[1])
	}
	for _, x := range append(others(), "(1,0)", "(0,0)") {
		wantBuiltin(t, "cx", x+",1", "fail badarg")
		wantBuiltin(t, "cx", "1,"+x, "fail badarg")
		wantBuiltin(t, "cx", x+","+x, "fail badarg")
	}
	wantValue(t, "cx", "cx(1, - 2)", "end (1,-2)")
	wantValue(t, "cx", "cx(1, cx(1, 2))", "fail badarg")
}

func TestP20_2Conj(t *testing.T) {
	for _, c := range [][2]string{{"(1,2)", "(1,-2)"}, {"(1,-2)", "(1,2)"}, {"(0,0)", "(0,0)"}, {"(3,0)", "(3,0)"}, {"0", "0"}, {"5", "5"}, {"-4611686018427387904", "-4611686018427387904"}} {
		wantBuiltin(t, "conj", c[0], "end "+c[1])
	}
	for _, x := range others() {
		wantBuiltin(t, "conj", x, "fail badarg")
	}
	wantValue(t, "conj", "conj(cx(1, 2)) == cx(1, - 2)", "end true")
}

func TestP20_2Len(t *testing.T) {
	for _, c := range [][2]string{{"{}", "0"}, {"{a}", "1"}, {"{a,{b,c}}", "2"}, {"[]", "0"}, {"[[1,2,3]]", "1"}, {"[1,2,3]", "3"}, {`""`, "0"}, {`"abc"`, "3"}, {`"\x00\xff"`, "2"}, {"{" + repeated("1", 256) + "}", "256"}, {"[" + repeated("1", 256) + "]", "256"}} {
		wantBuiltin(t, "len", c[0], "end "+c[1])
	}
	f := prog("1(1): Load 0; Bif len/1; Ret")
	must(t, "len", f, 0, term.Bytes(make([]byte, 4095))).talk("end 4095")
	for _, x := range []string{"0", "5", "(1,2)", "a", "undefined", "#r1.1.1", "#p1.1.1"} {
		wantBuiltin(t, "len", x, "fail badarg")
	}
}

func TestP20_2Elem(t *testing.T) {
	for _, c := range [][2]string{
		{"1,{a}", "end a"}, {"1,{a,b,c}", "end a"}, {"2,{a,b,c}", "end b"}, {"3,{a,b,c}", "end c"}, {"2,{a,{b,[c]}}", "end {b,[c]}"}, {"256,{" + repeated("1", 255) + ",2}", "end 2"},
		{"0,{a,b,c}", "fail badarg"}, {"4,{a,b,c}", "fail badarg"}, {"-1,{a,b,c}", "fail badarg"}, {"1,{}", "fail badarg"}, {"0,{}", "fail badarg"}, {"257,{" + repeated("1", 256) + "}", "fail badarg"}, {"4611686018427387903,{a}", "fail badarg"}, {"-4611686018427387904,{a}", "fail badarg"}, {"4294967297,{a}", "fail badarg"},
		{"1,[a]", "fail badarg"}, {"1,a", "fail badarg"}, {"1,1", "fail badarg"}, {`1,"abc"`, "fail badarg"}, {"1,(1,2)", "fail badarg"}, {"1,#p1.1.1", "fail badarg"}, {"(1,0),{a}", "fail badarg"}, {"a,{a}", "fail badarg"}, {"{a},1", "fail badarg"}, {"[1],{a}", "fail badarg"}, {`"",{a}`, "fail badarg"}, {"{},{a}", "fail badarg"},
	} {
		wantBuiltin(t, "elem", c[0], c[1])
	}
}

func TestP20_2HdTl(t *testing.T) {
	for _, c := range [][3]string{{"[1]", "1", "[]"}, {"[1,2]", "1", "[2]"}, {"[{a},[b],c]", "{a}", "[[b],c]"}, {"[[]]", "[]", "[]"}, {"[[1,2],3]", "[1,2]", "[3]"}, {"[" + repeated("1", 256) + "]", "1", "[" + repeated("1", 255) + "]"}, {deep("", 24), deep("", 23), "[]"}} {
		wantBuiltin(t, "hd", c[0], "end "+c[1])
		wantBuiltin(t, "tl", c[0], "end "+c[2])
	}
	for _, x := range []string{"[]", "{}", "{1,2}", "1", "(1,2)", "a", `""`, `"abc"`, "#r1.1.1", "#p1.1.1"} {
		wantBuiltin(t, "hd", x, "fail badarg")
		wantBuiltin(t, "tl", x, "fail badarg")
	}
	wantValue(t, "tl", "{hd([5]), tl([5, 6]), tl([5])}", "end {5,[6],[]}")
}

func TestP20_2Cons(t *testing.T) {
	for _, c := range [][3]string{{"1", "[]", "[1]"}, {"1", "[2]", "[1,2]"}, {"[1]", "[2,3]", "[[1],2,3]"}, {"[]", "[]", "[[]]"}, {"{a}", `["x"]`, `[{a},"x"]`}, {"1", "[" + repeated("2", 255) + "]", "[1," + repeated("2", 255) + "]"}} {
		wantBuiltin(t, "cons", c[0]+","+c[1], "end "+c[2])
	}
	for _, x := range []string{"1", "(1,2)", "a", "{}", "{1,2}", `""`, `"abc"`, "#r1.1.1", "#p1.1.1"} {
		wantBuiltin(t, "cons", "1,"+x, "fail badarg")
		wantBuiltin(t, "cons", "[1],"+x, "fail badarg")
	}
	// a list that is too wide, too deep, too great.
	wantBuiltin(t, "cons", "1,["+repeated("2", 256)+"]", "fail system_limit")
	wantBuiltin(t, "cons", deep("", 23)+",[1]", "end ["+deep("", 23)+",1]")
	wantBuiltin(t, "cons", deep("", 24)+",[]", "fail system_limit")
	wantBuiltin(t, "cons", deep("1", 23)+",[1]", "fail system_limit")
	wantBuiltin(t, "cons", "1,"+deep("", 24), "end [1,"+deep("", 23)+"]")
	full := "[" + repeated("["+repeated("1", 254)+"]", 16) + "]" // of the size 4081
	wantBuiltin(t, "cons", "{"+repeated("1", 14)+"},"+full, "end [{"+repeated("1", 14)+"},"+full[1:])
	wantBuiltin(t, "cons", "{"+repeated("1", 15)+"},"+full, "fail system_limit")
	wantBuiltin(t, "cons", full+","+full, "fail system_limit")
	wantBuiltin(t, "cons", deep("", 24)+",a", "fail badarg")
	wantText(t, "a list that grows", "main() -> f(256, []). f(N, L) -> case N of 0 -> len(L); _ -> f(N - 1, cons(N, L)) end.", append(turnsOf(513), "end 256")...)
	wantText(t, "a list that grows too long", "main() -> f(257, []). f(N, L) -> case N of 0 -> len(L); _ -> f(N - 1, cons(N, L)) end.", append(turnsOf(514), "fail system_limit")...)
	wantText(t, "a list that deepens", "main() -> f(24, []). f(N, L) -> case N of 0 -> L; _ -> f(N - 1, [L]) end.", "fail system_limit")
	wantText(t, "a tuple that doubles", "main() -> f(10, 1). f(N, X) -> case N of 0 -> len(X); _ -> f(N - 1, {X, X}) end.", "end 2")
	wantText(t, "a tuple that doubles too often", "main() -> f(12, 1). f(N, X) -> case N of 0 -> len(X); _ -> f(N - 1, {X, X}) end.", "fail system_limit")
}

// turnsOf: how many turns are asked for by so many instructions that count.
func turnsOf(n int) []string {
	var out []string
	for n > 40 {
		n -= 40
		out = append(out, "turn")
	}
	return out
}

// The arguments stay as they are, where they are held elsewhere too.
func TestP20_2BuiltinsChangeNothing(t *testing.T) {
	wantText(t, "tl and cons of one list", "main() -> L = [1, 2, 3], A = tl(L), B = cons(0, A), C = cons(9, A), D = tl(L), E = cons(7, tl(tl(L))), {L, A, B, C, D, E}.", "end {[1,2,3],[2,3],[0,2,3],[9,2,3],[2,3],[7,3]}")
	wantText(t, "parts of one tuple", "main() -> T = {[1, 2], [3]}, A = elem(1, T), B = cons(0, tl(A)), C = cons(5, elem(2, T)), {T, A, B, C}.", "end {{[1,2],[3]},[1,2],[0,2],[5,3]}")
	wantText(t, "a pattern's parts", "main() -> X = {1, [2, 3]}, {A, B} = X, C = cons(A, B), D = cons(C, B), {X, A, B, C, D}.", "end {{1,[2,3]},1,[2,3],[1,2,3],[[1,2,3],2,3]}")
	wantText(t, "an argument", "main() -> L = [1, 2], {f(L), L, g(L), L}. f(L) -> cons(0, L). g(L) -> tl(L).", "end {[0,1,2],[1,2],[2],[1,2]}")
}
