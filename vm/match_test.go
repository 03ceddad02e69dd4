package vm_test

import (
	"strings"
	"testing"

	"rookery/api"
	"rookery/match"
)

// wantMatch: does a value fit a pattern, with these slots; the slots behind it,
// "" where it does not fit.
func wantMatch(t testing.TB, what, slots, p, v, want string) {
	t.Helper()
	args := read("[" + slots + "]").L
	n := len(args)
	yes := "yes"
	if want == "" {
		yes, want = "no", slots
	}
	loads := ""
	for i := range n {
		loads += "Load " + itoa(i) + "; "
	}
	f := itoa(min(n, 8)) + "(" + itoa(n) + "): Push ahead; Push " + v + "; Match " + p + " else <no>; Push yes; " + loads + "List " + itoa(n) + "; Tuple 4; Ret; <no>:; Push no; " + loads + "List " + itoa(n) + "; Tuple 4; Ret"
	must(t, what, prog(f), 0, args[:min(n, 8)]...).talk("end {ahead," + v + "," + yes + ",[" + want + "]}")
}

// Terms fit themselves alone; _ takes all.
func TestP20_2MatchTerms(t *testing.T) {
	l := inOrder()
	for i, p := range l {
		for k, v := range l {
			want := ""
			if i == k {
				want = "s0,s1"
			}
			wantMatch(t, "a term as a pattern", "s0,s1", p, v, want)
		}
		wantMatch(t, "anything", "s0,s1", "_", p, "s0,s1")
		wantMatch(t, "V", "s0,s1", "V1", p, "s0,"+p)
		wantMatch(t, "B that is the same", p+",s1", "B0", p, p+",s1")
		wantMatch(t, "B that is not", p+",s1", "B1", p, "")
		wantMatch(t, "V within", "s0,s1", "{a,[V0]}", "{a,["+p+"]}", p+",s1")
		wantMatch(t, "V twice", "s0,s1", "{V0,V0}", "{"+p+","+p+"}", p+",s1")
		wantMatch(t, "V twice, not the same", "s0,s1", "{V0,V0}", "{"+p+",other}", "")
		wantMatch(t, "V and B", p+",s1", "[V1,B0]", "["+p+","+p+"]", p+","+p)
	}
}

func TestP20_2MatchShapes(t *testing.T) {
	for _, c := range []struct{ p, v, want string }{
		{"{V0,V1}", "{1,2}", "1,2,s2"}, {"{V1,V0}", "{1,2}", "2,1,s2"}, {"{V0,V1}", "{1}", ""}, {"{V0,V1}", "{1,2,3}", ""}, {"{V0}", "[1]", ""}, {"[V0]", "{1}", ""}, {"{}", "{}", "s0,s1,s2"}, {"[]", "[]", "s0,s1,s2"}, {"{}", "[]", ""}, {"[]", "{}", ""}, {"[]", "[1]", ""}, {"{}", "a", ""}, {"[]", `""`, ""},
		{"{_,_}", "{1,2}", "s0,s1,s2"}, {"{_,V2,_}", "{1,{2},3}", "s0,s1,{2}"}, {"{_,_}", "{1,2,3}", ""}, {"[V0,[V1,{V2}]]", "[1,[2,{3}]]", "1,2,3"}, {"[V0,[V1,{V2}]]", "[1,[2,{3,4}]]", ""}, {"[V0,[V1,{V2}]]", "[1,[2,[3]]]", ""},
		{"{V0,a}", "{1,a}", "1,s1,s2"}, {"{V0,a}", "{1,b}", ""}, {"{a,V0}", "{b,1}", ""}, {"{V0,{V1,a}}", "{1,{2,b}}", ""}, {"{V0,V1,V0}", "{1,2,1}", "1,2,s2"}, {"{V0,V1,V0}", "{1,2,3}", ""}, {"{V0,V0,V0}", "{1,1,2}", ""}, {"{V0,{V0}}", "{1,{1}}", "1,s1,s2"}, {"{V0,{V0}}", "{1,1}", ""}, {"{{V0},V0}", "{{1},{1}}", ""},
		{"{V0,V0}", "{1,(1,0)}", ""}, {"{V0,V0}", "{[],{}}", ""}, {"{V0,V0}", "{\"a\",\"a\"}", "\"a\",s1,s2"}, {"{V0,V0}", "{a,\"a\"}", ""}, {"{V0,V0}", "{#p1.1.1,#r1.1.1}", ""}, {"{V0,V0}", "{{1,[2]},{1,[2]}}", "{1,[2]},s1,s2"},
		{"V0", "s0", "s0,s1,s2"}, {"V2", "{s0}", "s0,s1,{s0}"}, {"B0", "s0", "s0,s1,s2"}, {"B0", "s1", ""}, {"{B0,B1}", "{s0,s1}", "s0,s1,s2"}, {"{B0,B1}", "{s1,s0}", ""}, {"{B1,B1}", "{s1,s1}", "s0,s1,s2"}, {"[B2,V0]", "[s2,9]", "9,s1,s2"}, {"[V0,B2]", "[9,s1]", ""},
		{"{V0,B0}", "{1,s0}", "1,s1,s2"}, {"{B0,V0}", "{s0,1}", "1,s1,s2"}, {"{V0,B0}", "{1,1}", ""}, {"{B0,V0,B0,V0}", "{s0,1,s0,1}", "1,s1,s2"}, {"{B0,V0,B0,V0}", "{s0,1,1,1}", ""}, {"{V0,B1,V1}", "{1,s1,2}", "1,2,s2"}, {"{V1,B1}", "{s1,s1}", "s0,s1,s2"},
		{"1", "1", "s0,s1,s2"}, {"1", "(1,0)", ""}, {"(1,0)", "(1,0)", "s0,s1,s2"}, {"(1,0)", "1", ""}, {`"a"`, "a", ""}, {"#p1.1.1", "#r1.1.1", ""}, {"{1,a}", "{1,a}", "s0,s1,s2"}, {"{{},[]}", "{{},[]}", "s0,s1,s2"},
	} {
		wantMatch(t, "a pattern", "s0,s1,s2", c.p, c.v, c.want)
	}
	wantMatch(t, "B of a great value", "{1,[2,{3}]},s1", "{B0,V1}", "{{1,[2,{3}]},x}", "{1,[2,{3}]},x")
	wantMatch(t, "B of a great value, not the same", "{1,[2,{3}]},s1", "{V1,B0}", "{x,{1,[2,{4}]}}", "")
	for _, slot := range []string{"V0", "_", "x"} {
		wantOne(t, "the deepest pattern", "0(1): Push "+deep("x", 23)+"; Match "+deep(slot, 23)+" else <no>; Ret; <no>:; Fail 1", "end "+deep("x", 23))
		wantOne(t, "the deepest pattern", "0(1): Push "+deep("", 24)+"; Match "+deep(slot, 23)+" else <no>; Ret; <no>:; Push no; Ret", map[string]string{"V0": "end " + deep("", 24), "_": "end " + deep("", 24), "x": "end no"}[slot])
	}
	wantMatch(t, "a deep pattern", "s0", deep("V0", 22), deep("x", 22), "x")
	wantMatch(t, "a wide pattern", "s0", "["+repeated("_", 255)+",V0]", "["+repeated("1", 255)+",2]", "2")
	wantMatch(t, "a wide pattern, one more", "s0", "["+repeated("_", 255)+",V0]", "["+repeated("1", 255)+"]", "")
	wantMatch(t, "a wide pattern of one name", "s0", "["+repeated("V0", 256)+"]", "["+repeated("1", 256)+"]", "1")
	wantMatch(t, "a wide pattern of one name, the last is another one", "s0", "["+repeated("V0", 256)+"]", "["+repeated("1", 255)+",2]", "")
}

// Slots that were not bound are the atom undefined for a B too.
func TestP20_2MatchUndefined(t *testing.T) {
	wantOne(t, "B of no argument", "0(2): Push undefined; Match B1 else <no>; Push yes; Tuple 2; Ret; <no>:; Push no; Tuple 2; Ret", "end {undefined,yes}")
	wantOne(t, "B of no argument", "0(2): Push a; Match B1 else <no>; Push yes; Tuple 2; Ret; <no>:; Push no; Tuple 2; Ret", "end {a,no}")
	wantOne(t, "B behind V", "0(2): Push a; Match V1 else <x>; <x>:; Pop; Push a; Match B1 else <no>; Push yes; Tuple 2; Ret; <no>:; Push no; Tuple 2; Ret", "end {a,yes}")
	wantOne(t, "V anew", "0(2): Push a; Match V1 else <x>; <x>:; Pop; Push b; Match V1 else <no>; Load 1; Tuple 2; Ret; <no>:; Push no; Tuple 2; Ret", "end {b,b}")
}

// More names than layer 5's Match takes: 72 slots, each V and B.
func TestP20_2MatchAllSlots(t *testing.T) {
	for _, slots := range []int{63, 64, 65, 66, 71, 72} {
		var vs, bs, values, was, others []string
		for i := range slots {
			vs, bs = append(vs, "V"+itoa(i)), append(bs, "B"+itoa(i))
			values, was = append(values, "v"+itoa(i)), append(was, "undefined")
			others = append(others, values[i])
		}
		others[slots-1] = "other"
		whole := func(l []string) string { return strings.Join(l, ",") }
		if p := read("[" + whole(vs) + "]"); match.Check(p) != api.OK {
			t.Fatal("P5.1: no pattern")
		}
		wantMatch(t, "V of all slots", whole(was), "["+whole(vs)+"]", "["+whole(values)+"]", whole(values))
		wantMatch(t, "V of all slots twice", whole(was), "{["+whole(vs)+"],{"+whole(vs)+"}}", "{["+whole(values)+"],{"+whole(values)+"}}", whole(values))
		wantMatch(t, "V of all slots twice, the last is another one", whole(was), "{["+whole(vs)+"],{"+whole(vs)+"}}", "{["+whole(values)+"],{"+whole(others)+"}}", "")
		wantMatch(t, "B of all slots", whole(was), "["+whole(bs)+"]", "["+whole(was)+"]", whole(was))
		wantMatch(t, "V and B of all slots", whole(was), "{["+whole(vs)+"],["+whole(bs)+"]}", "{["+whole(values)+"],["+whole(was)+"]}", whole(values))
		wantMatch(t, "V and B of all slots, the last B is another one", whole(was), "{["+whole(vs)+"],["+whole(bs)+"]}", "{["+whole(values)+"],["+repeated("undefined", slots-1)+",other]}", "")
	}
}

// Where a value does not fit, A is next, wherever that is.
func TestP20_2MatchNext(t *testing.T) {
	wantOne(t, "to the one behind", "Push 1; Match 2 else <x>; <x>:; Push 3; Tuple 2; Ret", "end {1,3}")
	wantOne(t, "ahead", "Push 1; Match 2 else <x>; Fail 1; <x>:; Push 3; Tuple 2; Ret", "end {1,3}")
	wantOne(t, "back", "Push 1; Jump <y>; <x>:; Push 3; Tuple 2; Ret; <y>:; Match 2 else <x>; Fail 1", "end {1,3}")
	wantOne(t, "it fits", "Push 1; Match 1 else <x>; Fail 1; <x>:; Push 3; Tuple 2; Ret", "fail {badmatch,1}")
	wantText(t, "clause by clause", "main() -> {f(1), f({2, 3}), f({3, 3}), f([]), f(\"x\")}. f(X) -> case X of {A, A} -> same; {A, B} -> {B, A}; 1 -> one; _ -> X end.", "end {one,{3,2},same,[],\"x\"}")
	wantText(t, "a name that is bound", "main() -> X = 1, {f(X, 1), f(X, 2)}. f(X, Y) -> case Y of X -> same; _ -> other end.", "end {same,other}")
	wantText(t, "a clause's names are another one's slots", "main() -> {f({1, 2}), f([3])}. f(X) -> case X of {A, B} -> [A, B]; [A] -> B = A, {A, B} end.", "end {[1,2],{3,3}}")
	wantText(t, "what a failed match leaves", "main() -> case {1, {2, 3}} of {A, {A, B}} -> B; {B, {A, C}} -> {A, B, C} end.", "end {2,1,3}")
}

// Each frame has slots of its own.
func TestP20_2MatchInFrames(t *testing.T) {
	wantText(t, "recursion", "main() -> f([1, 2, 3]). f(L) -> case L of [] -> []; _ -> H = hd(L), T = f(tl(L)), cons(H * 10, T) end.", "end [10,20,30]")
	wantTalk(t, "the one ahead keeps its slots", []string{"0(1): Push 1; Match V0 else <x>; <x>:; Pop; Push 5; Call 1/1; Load 0; Tuple 2; Ret", "1(2): Push 9; Match V0 else <x>; <x>:; Match V1 else <y>; <y>:; Pop; Load 0; Load 1; List 2; Ret"}, "end {[9,9],1}")
	wantTalk(t, "a tail call has new ones", []string{"0(1): Push 1; Match V0 else <x>; <x>:; Pop; Push 5; Tail 1/1", "1(2): Load 0; Load 1; List 2; Ret"}, "end [5,undefined]")
}
