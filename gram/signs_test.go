package gram_test

import (
	"slices"
	"strings"
	"testing"

	"rookery/api"
)

// = and ! join from the right, whichever stands ahead.
func TestP16_1EqualAndSend(t *testing.T) {
	wantBody(t, "=", "A = B", "(= A B)")
	wantBody(t, "!", "A ! B", "(! A B)")
	wantBody(t, "= and =", "A = B = C", "(= A (= B C))")
	wantBody(t, "! and !", "A ! B ! C", "(! A (! B C))")
	wantBody(t, "= and !", "A = B ! C", "(= A (! B C))")
	wantBody(t, "! and =", "A ! B = C", "(! A (= B C))")
	wantBody(t, "four", "A = B ! C = D ! E", "(= A (! B (= C (! D E))))")
	wantBody(t, "brackets on the left", "(A = B) = C", "(= (= A B) C)")
	wantBody(t, "brackets on the left", "(A ! B) = (C ! D)", "(= (! A B) (! C D))")
	wantBody(t, "what joins tighter", "A + 1 = B * 2 ! - C < D", "(= (+ A 1) (! (* B 2) (< (neg C) D)))")
	wantBody(t, "a call to send to", "whereis(a) ! {hi, self()}", "(! whereis(a) {hi self()})")
	for _, s := range []string{"=", "!"} {
		wantBodyAt(t, "nothing on the left", s+" B", 0)
		wantBodyAt(t, "nothing on the right", "A "+s+" ,1", 2)
		wantBodyAt(t, "doubled", "A "+s+" "+s+" B", 2)
		wantBodyAt(t, "nothing between", "A "+s+" ! = B", 2)
		wantBodyAt(t, "behind a sign that joins", "A + "+s+" B", 2)
		wantBodyAt(t, "behind a -", "- "+s+" B", 1)
		wantRefused(t, "nothing on the right", scan(t, "f() -> A "+s+"."), 6, api.ErrGramToken)
		wantRefused(t, "the end on the right", scan(t, "f() -> A "+s), 6, api.ErrGramToken)
	}
}

func comparing() []string { return joining()[:6] }

// Those that compare join once.
func TestP16_1Comparisons(t *testing.T) {
	for _, a := range comparing() {
		wantBody(t, "one", "1 "+a+" 2", "("+a+" 1 2)")
		wantBody(t, "sums", "1 + 2 "+a+" 3 - 4", "("+a+" (+ 1 2) (- 3 4))")
		wantBodyAt(t, "nothing on the left", a+" 2", 0)
		wantBodyAt(t, "nothing on the right", "1 "+a+" , 3", 2)
		wantBodyAt(t, "nothing on the right", "1 "+a+" = 3", 2)
		for _, b := range comparing() {
			wantBodyAt(t, "a second one", "1 "+a+" 2 "+b+" 3", 3)
			wantBodyAt(t, "a second one", "1 "+a+" 2 + 5 "+b+" 3", 5)
			wantBodyAt(t, "two in a row", "1 "+a+" "+b+" 3", 2)
			wantBody(t, "brackets on the left", "(1 "+a+" 2) "+b+" 3", "("+b+" ("+a+" 1 2) 3)")
			wantBody(t, "brackets on the right", "1 "+a+" (2 "+b+" 3)", "("+a+" 1 ("+b+" 2 3))")
			wantBody(t, "one on each side of =", "1 "+a+" 2 = 3 "+b+" 4", "(= ("+a+" 1 2) ("+b+" 3 4))")
			wantBody(t, "one on each side of !", "1 "+a+" 2 ! 3 "+b+" 4", "(! ("+a+" 1 2) ("+b+" 3 4))")
		}
	}
}

func tightness(s string) int { return joins(tree(api.TBin, s)) }

// Each two and each three of the signs that join: the tighter one first, of the
// same level the left one first.
func TestP16_1Levels(t *testing.T) {
	for _, a := range joining() {
		wantBody(t, "one", "1 "+a+" 2", "("+a+" 1 2)")
		for _, b := range joining() {
			left, right := "("+b+" ("+a+" 1 2) 3)", "("+a+" 1 ("+b+" 2 3))"
			s := "1 " + a + " 2 " + b + " 3"
			switch {
			case tightness(b) > tightness(a):
				wantBody(t, "a tighter one behind", s, right)
			case tightness(b) < tightness(a) || tightness(a) > compared:
				wantBody(t, "none tighter behind", s, left)
			default:
				wantBodyAt(t, "a second comparison", s, 3)
			}
			wantBody(t, "brackets", "(1 "+a+" 2) "+b+" 3", left)
			wantBody(t, "brackets", "1 "+a+" (2 "+b+" 3)", right)
			wantBodyAt(t, "two in a row", "1 "+a+" "+strings.Replace(b, "-", "+", 1)+" 2", 2)
		}
	}
	wantBody(t, "from the left", "1 - 2 - 3 + 4 - 5", "(- (+ (- (- 1 2) 3) 4) 5)")
	wantBody(t, "from the left", "1 / 2 * 3 rem 4 / 5", "(/ (rem (* (/ 1 2) 3) 4) 5)")
	wantBody(t, "levels", "1 + 2 * 3 - 4 / 5 rem 6 + 7", "(+ (- (+ 1 (* 2 3)) (rem (/ 4 5) 6)) 7)")
	wantBody(t, "all levels", "A = 1 * 2 + 3 < 4 - 5 * - 6 ! B", "(= A (! (< (+ (* 1 2) 3) (- 4 (* 5 (neg 6)))) B))")
	three := func(a, b, c string) {
		x := splitProg(scan(t, "f() -> 1 "+a+" 2 "+b+" 3 "+c+" 4."))
		wantTree(t, "three", scan(t, "f() -> 1 "+a+" 2 "+b+" 3 "+c+" 4."), x)
	}
	for _, a := range joining()[6:] {
		for _, b := range joining()[6:] {
			for _, c := range joining() {
				three(a, b, c)
			}
		}
	}
	var sum []string
	want := "1"
	for range 1990 {
		sum = append(sum, "1")
		want = "(- " + want + " 1)"
	}
	wantShown(t, "very many", "f() -> 1 - "+strings.Join(sum, " - ")+".", "(prog (fun f (body "+want+")))")
}

func TestP16_1LevelsWrong(t *testing.T) {
	for _, a := range []string{"+", "*", "/", "rem"} {
		wantBodyAt(t, "nothing on the left", a+" 2", 0)
		wantBodyAt(t, "nothing on the left", "- "+a+" 2", 1)
	}
	for _, a := range joining() {
		for _, s := range []string{",", ")", "}", "]", ";", "end", "of", "after", "->", "=", "!", "==", "*", "rem"} {
			wantRefused(t, "nothing on the right", scan(t, "f() -> 1 "+a+" "+s), 6, api.ErrGramToken)
		}
		wantRefused(t, "the end on the right", scan(t, "f() -> 1 "+a), 6, api.ErrGramToken)
		wantRefused(t, "the . on the right", scan(t, "f() -> 1 "+a+"."), 6, api.ErrGramToken)
	}
}

// The - of UNARY: once, twice, ahead of all that may stand behind it.
func TestP16_1Minus(t *testing.T) {
	wantBody(t, "once", "- 1", "(neg 1)")
	wantBody(t, "twice", "- - 1", "(neg (neg 1))")
	wantBody(t, "three times", "---1", "(neg (neg (neg 1)))")
	for s, want := range map[string]string{"X": "X", "a": "a", `"q"`: `"q"`, "g()": "g()", "g(1)": "g(1)", "(1)": "1", "(1 + 2)": "(+ 1 2)", "{}": "{}", "[1]": "[1]", "case 1 of 2 -> 3 end": "(case 1 (clause 2 (body 3)))", "receive after 1 -> 2 end": "(receive (after 1 (body 2)))"} {
		wantBody(t, "ahead of "+s, "- "+s, "(neg "+want+")")
	}
	for _, a := range joining() {
		wantBody(t, "behind a sign that joins", "1 "+a+" - 2", "("+a+" 1 (neg 2))")
		wantBody(t, "behind a sign that joins, twice", "1 "+a+" - - 2", "("+a+" 1 (neg (neg 2)))")
		wantBody(t, "ahead of what is joined", "- 1 "+a+" 2", "("+a+" (neg 1) 2)")
		wantBody(t, "on both sides", "- - 1 "+a+" - 2", "("+a+" (neg (neg 1)) (neg 2))")
		wantBody(t, "brackets", "- (1 "+a+" 2)", "(neg ("+a+" 1 2))")
	}
	wantBody(t, "behind =", "A = - 1", "(= A (neg 1))")
	wantBody(t, "behind !", "A ! - 1", "(! A (neg 1))")
	wantBody(t, "ahead of =", "- 1 = - A", "(= (neg 1) (neg A))")
	wantBody(t, "as both", "1 - - 1 - 1", "(- (- 1 (neg 1)) 1)")
	wantBodyAt(t, "alone", "-, 1", 1)
	wantBodyAt(t, "alone in brackets", "(-)", 2)
	wantBodyAt(t, "ahead of a +", "- + 1", 1)
	wantBodyAt(t, "behind what it stands ahead of", "(1 -)", 3)
	wantBodyAt(t, "an arrow in its place", "-> 1", 0)
}

// Whichever way it is written, a level lower is a lower one: random sums without
// brackets, worked out by the place of the sign that joins last.
func TestP16_1Sums(t *testing.T) {
	m := newMaker(163)
	for range 4000 {
		l := []api.Token{integer(int64(m.Intn(10)))}
		for range m.Intn(14) {
			l = append(l, joiner(pick(m, joining()[6:]...)))
			for range m.Intn(8) / 6 {
				l = append(l, sign("-"))
			}
			l = append(l, integer(int64(m.Intn(10))))
		}
		if m.Intn(3) == 0 {
			l = slices.Concat(l, []api.Token{joiner(pick(m, comparing()...))}, l)
		}
		wantTree(t, "a sum", bodied(l...), inBody(splitExpr(l)))
	}
}
