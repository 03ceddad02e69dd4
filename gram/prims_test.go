package gram_test

import (
	"strings"
	"testing"

	"rookery/api"
)

// An atom with a ( behind it is a call, with blanks and notes between them too.
func TestP16_1Calls(t *testing.T) {
	wantBody(t, "an atom alone", "g", "g")
	for _, gap := range []string{"", " ", "\n", " % a note\n\t"} {
		wantBody(t, "no argument", "g"+gap+"()", "g()")
		wantBody(t, "one argument", "g"+gap+"(1)", "g(1)")
		wantBody(t, "several arguments", "g"+gap+"(1, X, a)", "g(1 X a)")
	}
	wantBody(t, "calls as arguments", "g(h(), h(1), g(g(2)))", "g(h() h(1) g(g(2)))")
	wantBody(t, "any expression as an argument", "g(A = 1, A ! 2, - 1 + 2 < 3, {}, case 1 of 2 -> 3 end)", "g((= A 1) (! A 2) (< (+ (neg 1) 2) 3) {} (case 1 (clause 2 (body 3))))")
	wantBody(t, "nine arguments", "g(1, 2, 3, 4, 5, 6, 7, 8, 9)", "g(1 2 3 4 5 6 7 8 9)")
	wantBody(t, "an argument in brackets", "g((1))", "g(1)")
	wantBody(t, "an atom in brackets", "(g)", "g")
	wantBodyAt(t, "an atom in brackets and a bracket", "(g)()", 3)
	wantBodyAt(t, "a call of what was called", "g()()", 3)
	wantBodyAt(t, "a comma too many", "g(,)", 2)
	wantBodyAt(t, "a comma too many", "g(,1)", 2)
	wantBodyAt(t, "a comma too many", "g(1,)", 4)
	wantBodyAt(t, "a comma too many", "g(1,,2)", 4)
	wantBodyAt(t, "no comma", "g(1 2)", 3)
	wantBodyAt(t, "a ; in the place of a comma", "g(1; 2)", 3)
	wantBodyAt(t, "no end", "g(1, 2]", 5)
	wantBodyAt(t, "another end", "g(}", 2)
	for _, s := range []string{"X", "1", `"g"`, "{}", "[]", "_"} {
		wantBodyAt(t, "what can't be called", s+"()", len(scan(t, s)))
	}
	wantRefused(t, "the end behind the (", scan(t, "f() -> g("), 6, api.ErrGramToken)
	wantRefused(t, "the end behind an argument", scan(t, "f() -> g(1"), 7, api.ErrGramToken)
}

func TestP16_1Brackets(t *testing.T) {
	for s, want := range map[string]string{"1": "1", "X": "X", "a": "a", `"q"`: `"q"`, "g(1)": "g(1)", "{}": "{}", "[a]": "[a]", "- 1": "(neg 1)", "1 + 2": "(+ 1 2)", "1 == 2": "(== 1 2)", "A = B": "(= A B)", "A ! B": "(! A B)", "receive after 1 -> 2 end": "(receive (after 1 (body 2)))"} {
		wantBody(t, "one", "("+s+")", want)
		wantBody(t, "three", "((("+s+")))", want)
		wantBody(t, "joined", "("+s+") * ("+s+")", "(* "+want+" "+want+")")
	}
	wantBodyAt(t, "empty", "()", 1)
	wantBodyAt(t, "empty within", "(())", 2)
	wantBodyAt(t, "two", "(1, 2)", 2)
	wantBodyAt(t, "not closed", "(1]", 2)
	wantBodyAt(t, "behind each other", "(1)(2)", 3)
	wantBodyAt(t, "an int ahead", "1(2)", 1)
	wantBodyAt(t, "a ->", "(->)", 1)
}

func TestP16_1TuplesAndLists(t *testing.T) {
	for _, c := range []struct{ open, end, other string }{{"{", "}", "]"}, {"[", "]", ")"}} {
		o, e := c.open, c.end
		wantBody(t, "empty", o+e, o+e)
		wantBody(t, "one element", o+"a"+e, o+"a"+e)
		wantBody(t, "several", o+"1, X, a, \"q\""+e, o+`1 X a "q"`+e)
		wantBody(t, "nested", o+"{}, [], {[a]}, (b)"+e, o+"{} [] {[a]} b"+e)
		wantBody(t, "any expression", o+"A = 1, A ! 2, - 1 < 2, g()"+e, o+"(= A 1) (! A 2) (< (neg 1) 2) g()"+e)
		wantBodyAt(t, "a comma too many", o+","+e, 1)
		wantBodyAt(t, "a comma too many", o+",1"+e, 1)
		wantBodyAt(t, "a comma too many", o+"1,"+e, 3)
		wantBodyAt(t, "a comma too many", o+"1,,2"+e, 3)
		wantBodyAt(t, "no comma", o+"1 2"+e, 2)
		wantBodyAt(t, "another end", o+"1"+c.other, 2)
		wantBodyAt(t, "another end", o+c.other, 1)
		wantBodyAt(t, "a ;", o+"1; 2"+e, 2)
		wantBodyAt(t, "behind each other", o+e+o+e, 2)
		wantBodyAt(t, "behind an atom", "a"+o+e, 1)
		wantBodyAt(t, "the end alone", e, 0)
		wantRefused(t, "the end of all", scan(t, "f() -> "+o), 5, api.ErrGramToken)
		wantRefused(t, "the end of all", scan(t, "f() -> "+o+"1,"), 7, api.ErrGramToken)
		ones := make([]string, 1990)
		for i := range ones {
			ones[i] = "1"
		}
		wantShown(t, "very many", "f() -> "+o+strings.Join(ones, ",")+e+".", "(prog (fun f (body "+o+strings.Join(ones, " ")+e+")))")
	}
	wantBodyAt(t, "a tail", "[1 ! ]", 3)
}

func TestP16_1Case(t *testing.T) {
	wantBody(t, "one clause", "case 1 of 2 -> 3 end", "(case 1 (clause 2 (body 3)))")
	wantBody(t, "two clauses", "case X of a -> 1; b -> 2 end", "(case X (clause a (body 1)) (clause b (body 2)))")
	wantBody(t, "several", "case X of a -> 1; b -> 2, 3; _ -> 4; _ -> 5, 6, 7 end", "(case X (clause a (body 1)) (clause b (body 2 3)) (clause _ (body 4)) (clause _ (body 5 6 7)))")
	wantBody(t, "any expression", "case A = B ! 1 < 2 of 3 -> A = 4, 5 ! 6 end", "(case (= A (! B (< 1 2))) (clause 3 (body (= A 4) (! 5 6))))")
	wantBody(t, "nested", "case case 1 of 2 -> 3 end of case 4 of 5 -> 6 end -> case 7 of 8 -> 9 end; a -> b end", "(case (case 1 (clause 2 (body 3))) (clause (case 4 (clause 5 (body 6))) (body (case 7 (clause 8 (body 9))))) (clause a (body b)))")
	wantBody(t, "joined", "case 1 of 2 -> 3 end + case 1 of 2 -> 3 end * 4", "(+ (case 1 (clause 2 (body 3))) (* (case 1 (clause 2 (body 3))) 4))")
	for s, at := range map[string]int{
		"case of 2 -> 3 end": 1, "case 1 2 -> 3 end": 2, "case 1 -> 3 end": 2, "case 1, 2 of 3 -> 4 end": 2, "case 1 of end": 3, "case 1 of ; end": 3, "case 1 of -> 3 end": 3, "case 1 of 2 3 end": 4, "case 1 of 2 end": 4, "case 1 of 2 -> end": 5, "case 1 of 2 -> ; 3 -> 4 end": 5, "case 1 of 2 -> 3; end": 7, "case 1 of 2 -> 3;; 4 -> 5 end": 7, "case 1 of 2 -> 3, end": 7, "case 1 of 2 -> 3, 4 -> 5 end": 8, "case 1 of 2 -> 3 4 -> 5 end": 6,
		"case 1 of 2 -> 3 after 4 -> 5 end": 6, "case 1 of after 4 -> 5 end": 3, "case 1 of of 2 -> 3 end": 3, "case 1 of 2 -> -> 3 end": 5, "case 1 of 2 = 3 end": 4, "case 1 of, 2 -> 3 end": 3, "case 1 case 2 of 3 -> 4 end": 2, "of 2 -> 3 end": 0, "end": 0, "case end": 1, "case": 1,
	} {
		wantBodyAt(t, s, s, at)
	}
	wantRefused(t, "without the outer of", scan(t, "f() -> case case 1 of 2 -> 3 end."), 12, api.ErrGramToken)
	wantRefused(t, "without end", scan(t, "f() -> case 1 of 2 -> 3."), 10, api.ErrGramToken)
	wantRefused(t, "without end", scan(t, "f() -> case 1 of 2 -> 3"), 10, api.ErrGramToken)
	wantRefused(t, "two ends", scan(t, "f() -> case 1 of 2 -> 3 end end."), 11, api.ErrGramToken)
}

func TestP16_1Receive(t *testing.T) {
	wantBody(t, "clauses alone", "receive a -> b end", "(receive (clause a (body b)))")
	wantBody(t, "clauses alone", "receive a -> b; {c, X} -> X, d; _ -> e end", "(receive (clause a (body b)) (clause {c X} (body X d)) (clause _ (body e)))")
	wantBody(t, "after alone", "receive after 1 -> 2 end", "(receive (after 1 (body 2)))")
	wantBody(t, "both", "receive a -> b after 1 -> 2 end", "(receive (clause a (body b)) (after 1 (body 2)))")
	wantBody(t, "both, several", "receive a -> b, c; d -> e after X = 1 ! 2 -> f, g, h end", "(receive (clause a (body b c)) (clause d (body e)) (after (= X (! 1 2)) (body f g h)))")
	wantBody(t, "nested", "receive receive after 1 -> 2 end -> receive a -> b end after receive after 3 -> 4 end -> receive c -> d after 5 -> 6 end end", "(receive (clause (receive (after 1 (body 2))) (body (receive (clause a (body b))))) (after (receive (after 3 (body 4))) (body (receive (clause c (body d)) (after 5 (body 6))))))")
	wantBody(t, "joined", "receive after 0 -> 1 end ! - receive after 0 -> 1 end", "(! (receive (after 0 (body 1))) (neg (receive (after 0 (body 1)))))")
	for s, at := range map[string]int{
		"receive end": 1, "receive ; end": 1, "receive -> 1 end": 1, "receive 1 end": 2, "receive 1 -> end": 3, "receive 1 -> 2; end": 5, "receive 1 -> 2; after 3 -> 4 end": 5, "receive 1 -> 2;; 3 -> 4 end": 5, "receive ; 1 -> 2 end": 1, "receive after end": 2, "receive after 1 end": 3, "receive after -> 1 end": 2, "receive after 1 -> end": 4, "receive after 1 2 end": 3, "receive after 1 -> 2 after 3 -> 4 end": 5,
		"receive after 1 -> 2; 3 -> 4 end": 5, "receive after 1 -> 2 3 -> 4 end": 5, "receive 1 -> 2 after after 3 -> 4 end": 5, "receive 1 -> 2, after 3 -> 4 end": 5, "receive 1 -> 2, 3 -> 4 end": 6, "receive 1 -> 2 3 -> 4 end": 4, "receive 1 of 2 -> 3 end": 2, "receive after 1, 2 -> 3 end": 3, "receive after 1 -> 2, end": 6, "receive receive end": 2, "after 1 -> 2": 0, "receive of": 1, "receive 1 -> 2 of": 4,
	} {
		wantBodyAt(t, s, s, at)
	}
	wantRefused(t, "without end", scan(t, "f() -> receive a -> b."), 8, api.ErrGramToken)
	wantRefused(t, "without end", scan(t, "f() -> receive after 1 -> b"), 9, api.ErrGramToken)
	wantRefused(t, "nothing behind receive", scan(t, "f() -> receive"), 5, api.ErrGramToken)
}

// A clause begins with a UNARY: what is greater stands in brackets.
func TestP16_1Patterns(t *testing.T) {
	for s, want := range map[string]string{"1": "1", "- 1": "(neg 1)", "- - 1": "(neg (neg 1))", "a": "a", "X": "X", "_": "_", `"q"`: `"q"`, "{}": "{}", "{a, [X, 1 + 2]}": "{a [X (+ 1 2)]}", "g()": "g()", "g(1, 2)": "g(1 2)", "(1 + 2)": "(+ 1 2)", "(A = B)": "(= A B)", "((A ! B))": "(! A B)", "- (1 < 2)": "(neg (< 1 2))"} {
		wantBody(t, "a case", "case 0 of "+s+" -> 9 end", "(case 0 (clause "+want+" (body 9)))")
		wantBody(t, "a second clause", "case 0 of 1 -> 2; "+s+" -> 9 end", "(case 0 (clause 1 (body 2)) (clause "+want+" (body 9)))")
		wantBody(t, "a receive", "receive "+s+" -> 9 after 0 -> 1 end", "(receive (clause "+want+" (body 9)) (after 0 (body 1)))")
	}
	for _, s := range append(joining(), "=", "!", ",") {
		wantBodyAt(t, "what is greater", "case 0 of A "+s+" B -> 9 end", 4)
		wantBodyAt(t, "what is greater", "receive A "+s+" B -> 9 end", 2)
		wantBodyAt(t, "what is greater", "receive - A "+s+" B -> 9 end", 3)
		wantBodyAt(t, "what is greater", "receive 1 -> 2; {A} "+s+" B -> 9 end", 8)
	}
	wantBody(t, "an after may be greater", "receive after A = 1 + 2 < 3 -> 9 end", "(receive (after (= A (< (+ 1 2) 3)) (body 9)))")
	for _, s := range []string{"of", "end", "rem", ")", ",", ".", "=", "+"} {
		wantBodyAt(t, "what can't begin one", "case 0 of "+s+" -> 9 end", 3)
		wantBodyAt(t, "what can't begin one", "receive "+s+" -> 9 end", 1)
	}
}

// Words and signs where something else is wanted.
func TestP16_1WordsAndSigns(t *testing.T) {
	for _, s := range append([]string{"of", "end", "after", "rem"}, ")", "}", "]", "->", "==", "/=", "=<", ">=", "=", "<", ">", "+", "*", "/", "!", ",", ";", ".") {
		wantRefused(t, "in the place of an expression", scan(t, "f() -> "+s+"."), 4, api.ErrGramToken)
		wantBodyAt(t, "in the place of an expression", "1, "+s, 2)
		wantBodyAt(t, "in the place of an operand", "1 + "+s, 2)
		wantBodyAt(t, "in the place of an element", "{1, "+s+"}", 3)
		wantBodyAt(t, "behind a -", "- "+s, 1)
		wantBodyAt(t, "behind a (", "("+s+")", 1)
	}
	for _, s := range []string{"1", "a", "X", `"q"`, "{", "[", "(", "case", "receive"} {
		for _, ahead := range []string{"1", "X", `"q"`, "{}", "[]", "(1)", "g()", "receive after 1 -> 2 end"} {
			wantBodyAt(t, "two without a sign between", ahead+" "+s, len(scan(t, ahead)))
		}
	}
}
