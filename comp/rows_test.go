package comp_test

import (
	"fmt"
	"strings"
	"testing"

	"rookery/api"
)

// sample: an expression, its code, and its last code; without one that is the
// code and an ORet.
type sample struct{ text, code, last string }

func (s sample) lastCode() string {
	if s.last != "" {
		return s.last
	}
	return s.code + ", Ret"
}

// heads: the functions among which the samples stand: g of one argument ahead, f
// itself, and f of none and of one, h and main behind.
const (
	headG  = "g(X) -> X. "
	tailFs = " f() -> 1. f(_) -> 2. h(A, B) -> B. main() -> f(1, 2)."
)

// wantLast: the last code of f(A, B) whose body is that text.
func wantLast(t testing.TB, what, text, last string) {
	t.Helper()
	wantCode(t, what, headG+"f(A, B) -> "+text+"."+tailFs, "Load 0, Ret", last, "Push 1, Ret", "Push 2, Ret", "Load 1, Ret", "Push 1, Push 2, Tail 1/2")
}

// leaves: samples that hold no other ones.
func leaves() []sample {
	return []sample{
		{"0", "Push 0", ""}, {"7", "Push 7", ""}, {"4611686018427387903", "Push 4611686018427387903", ""},
		{"a", "Push a", ""}, {"main", "Push main", ""}, {"self", "Push self", ""}, {"infinity", "Push infinity", ""},
		{`""`, `Push ""`, ""}, {`"a b"`, `Push "a b"`, ""}, {`"\x00\xff\"\\"`, `Push "\x00\xff\"\\"`, ""},
		{"A", "Load 0", ""}, {"B", "Load 1", ""},
		{"{}", "Tuple 0", ""}, {"[]", "List 0", ""}, {"{a}", "Push a, Tuple 1", ""}, {"[B]", "Load 1, List 1", ""},
		{"{1, B, 3}", "Push 1, Load 1, Push 3, Tuple 3", ""}, {"[A, [], A]", "Load 0, List 0, Load 0, List 3", ""},
		{"{{}, [{a}]}", "Tuple 0, Push a, Tuple 1, List 1, Tuple 2", ""},
		{"- 1", "Push 1, Neg", ""}, {"- A", "Load 0, Neg", ""}, {"- - 0", "Push 0, Neg, Neg", ""}, {"- a", "Push a, Neg", ""},
		{"A ! B", "Load 0, Load 1, Send", ""}, {"self() ! A", "Bif 1, Load 0, Send", ""}, {"1 ! 2 ! 3", "Push 1, Push 2, Push 3, Send, Send", ""},
		{"f(1, 2)", "Push 1, Push 2, Call 1/2", "Push 1, Push 2, Tail 1/2"}, {"g(B)", "Load 1, Call 0/1", "Load 1, Tail 0/1"}, {"h(B, A)", "Load 1, Load 0, Call 4/2", "Load 1, Load 0, Tail 4/2"},
		{"f()", "Call 2/0", "Tail 2/0"}, {"f(a)", "Push a, Call 3/1", "Push a, Tail 3/1"}, {"main()", "Call 5/0", "Tail 5/0"},
		{"f(f(), f(f(1)))", "Call 2/0, Push 1, Call 3/1, Call 3/1, Call 1/2", "Call 2/0, Push 1, Call 3/1, Call 3/1, Tail 1/2"},
		{"X = 7", "Push 7, Match V2 else <x>, Jump <e>, <x>:, Fail 1, <e>:", ""},
		{"1 = 2", "Push 2, Match 1 else <x>, Jump <e>, <x>:, Fail 1, <e>:", ""},
		{"{A, _} = B", "Load 1, Match {B0,_} else <x>, Jump <e>, <x>:, Fail 1, <e>:", ""},
		{"a = b = c", "Push c, Match b else <w>, Jump <v>, <w>:, Fail 1, <v>:, Match a else <x>, Jump <e>, <x>:, Fail 1, <e>:", ""},
		{"case A of 1 -> 2 end", "Load 0, Match 1 else <x>, Pop, Push 2, Jump <e>, <x>:, Fail 2, <e>:", "Load 0, Match 1 else <x>, Pop, Push 2, Ret, <x>:, Fail 2"},
		{"case A of 1 -> 2; 3 -> f(); _ -> 4, 5 end",
			"Load 0, Match 1 else <m>, Pop, Push 2, Jump <e>, <m>:, Match 3 else <n>, Pop, Call 2/0, Jump <e>, <n>:, Match _ else <x>, Pop, Push 4, Pop, Push 5, Jump <e>, <x>:, Fail 2, <e>:",
			"Load 0, Match 1 else <m>, Pop, Push 2, Ret, <m>:, Match 3 else <n>, Pop, Tail 2/0, <n>:, Match _ else <x>, Pop, Push 4, Pop, Push 5, Ret, <x>:, Fail 2"},
		{"receive 1 -> 2 end",
			"Push infinity, Timer, <y>:, Peek <z>, Match 1 else <x>, Take, Push 2, Jump <e>, <x>:, Next, Jump <y>, <z>:, Push timeout, Fail 3, <e>:",
			"Push infinity, Timer, <y>:, Peek <z>, Match 1 else <x>, Take, Push 2, Ret, <x>:, Next, Jump <y>, <z>:, Push timeout, Fail 3"},
		{"receive 1 -> 2; B -> g(B), g(1); _ -> 4 end",
			"Push infinity, Timer, <y>:, Peek <z>, Match 1 else <m>, Take, Push 2, Jump <e>, <m>:, Match B1 else <n>, Take, Load 1, Call 0/1, Pop, Push 1, Call 0/1, Jump <e>, <n>:, Match _ else <x>, Take, Push 4, Jump <e>, <x>:, Next, Jump <y>, <z>:, Push timeout, Fail 3, <e>:",
			"Push infinity, Timer, <y>:, Peek <z>, Match 1 else <m>, Take, Push 2, Ret, <m>:, Match B1 else <n>, Take, Load 1, Call 0/1, Pop, Push 1, Tail 0/1, <n>:, Match _ else <x>, Take, Push 4, Ret, <x>:, Next, Jump <y>, <z>:, Push timeout, Fail 3"},
		{"receive after 5 -> 6 end",
			"Push 5, Timer, <y>:, Peek <z>, Next, Jump <y>, <z>:, Push 6",
			"Push 5, Timer, <y>:, Peek <z>, Next, Jump <y>, <z>:, Push 6, Ret"},
		{"receive after A -> 6, f() end",
			"Load 0, Timer, <y>:, Peek <z>, Next, Jump <y>, <z>:, Push 6, Pop, Call 2/0",
			"Load 0, Timer, <y>:, Peek <z>, Next, Jump <y>, <z>:, Push 6, Pop, Tail 2/0"},
		{"receive 1 -> f(); 2 -> 3 after 0 -> f() end",
			"Push 0, Timer, <y>:, Peek <z>, Match 1 else <m>, Take, Call 2/0, Jump <e>, <m>:, Match 2 else <x>, Take, Push 3, Jump <e>, <x>:, Next, Jump <y>, <z>:, Call 2/0, <e>:",
			"Push 0, Timer, <y>:, Peek <z>, Match 1 else <m>, Take, Tail 2/0, <m>:, Match 2 else <x>, Take, Push 3, Ret, <x>:, Next, Jump <y>, <z>:, Tail 2/0"},
	}
}

// contexts: what stands around an expression @; @ in the code is its code, @@
// its last code. It is no place for a body's parts, which stand in bodies alone.
func contexts() []sample {
	return []sample{
		{"{@}", "@, Tuple 1", ""}, {"{0, @, 1}", "Push 0, @, Push 1, Tuple 3", ""}, {"[@, A]", "@, Load 0, List 2", ""},
		{"- (@)", "@, Neg", ""}, {"(@) + 1", "@, Push 1, Bin 1", ""}, {"1 rem (@)", "Push 1, @, Bin 5", ""}, {"2 == (@)", "Push 2, @, Bin 6", ""},
		{"(@) ! 1", "@, Push 1, Send", ""}, {"1 ! (@)", "Push 1, @, Send", ""},
		{"hd(@)", "@, Bif 24", ""}, {"cx(1, @)", "Push 1, @, Bif 20", ""},
		{"g(@)", "@, Call 0/1", "@, Tail 0/1"}, {"h(@, A)", "@, Load 0, Call 4/2", "@, Load 0, Tail 4/2"}, {"h(f(), @)", "Call 2/0, @, Call 4/2", "Call 2/0, @, Tail 4/2"},
		{"1 = (@)", "@, Match 1 else <x>, Jump <e>, <x>:, Fail 1, <e>:", ""},
		{"(@)", "@", "@@"},
		{"case @ of 1 -> 2 end", "@, Match 1 else <x>, Pop, Push 2, Jump <e>, <x>:, Fail 2, <e>:", "@, Match 1 else <x>, Pop, Push 2, Ret, <x>:, Fail 2"},
		{"case 1 of 2 -> @ end", "Push 1, Match 2 else <x>, Pop, @, Jump <e>, <x>:, Fail 2, <e>:", "Push 1, Match 2 else <x>, Pop, @@, <x>:, Fail 2"},
		{"case 1 of 2 -> 3, @; 4 -> @, 5; 6 -> 7 end",
			"Push 1, Match 2 else <n>, Pop, Push 3, Pop, @, Jump <e>, <n>:, Match 4 else <m>, Pop, @, Pop, Push 5, Jump <e>, <m>:, Match 6 else <x>, Pop, Push 7, Jump <e>, <x>:, Fail 2, <e>:",
			"Push 1, Match 2 else <n>, Pop, Push 3, Pop, @@, <n>:, Match 4 else <m>, Pop, @, Pop, Push 5, Ret, <m>:, Match 6 else <x>, Pop, Push 7, Ret, <x>:, Fail 2"},
		{"case 1 of 2 -> 3; _ -> @ end",
			"Push 1, Match 2 else <n>, Pop, Push 3, Jump <e>, <n>:, Match _ else <x>, Pop, @, Jump <e>, <x>:, Fail 2, <e>:",
			"Push 1, Match 2 else <n>, Pop, Push 3, Ret, <n>:, Match _ else <x>, Pop, @@, <x>:, Fail 2"},
		{"receive 1 -> @; 2 -> 3 end",
			"Push infinity, Timer, <y>:, Peek <z>, Match 1 else <n>, Take, @, Jump <e>, <n>:, Match 2 else <x>, Take, Push 3, Jump <e>, <x>:, Next, Jump <y>, <z>:, Push timeout, Fail 3, <e>:",
			"Push infinity, Timer, <y>:, Peek <z>, Match 1 else <n>, Take, @@, <n>:, Match 2 else <x>, Take, Push 3, Ret, <x>:, Next, Jump <y>, <z>:, Push timeout, Fail 3"},
		{"receive 1 -> @, 2 after 3 -> @, 4 end",
			"Push 3, Timer, <y>:, Peek <z>, Match 1 else <x>, Take, @, Pop, Push 2, Jump <e>, <x>:, Next, Jump <y>, <z>:, @, Pop, Push 4, <e>:",
			"Push 3, Timer, <y>:, Peek <z>, Match 1 else <x>, Take, @, Pop, Push 2, Ret, <x>:, Next, Jump <y>, <z>:, @, Pop, Push 4, Ret"},
		{"receive after @ -> 1 end",
			"@, Timer, <y>:, Peek <z>, Next, Jump <y>, <z>:, Push 1",
			"@, Timer, <y>:, Peek <z>, Next, Jump <y>, <z>:, Push 1, Ret"},
		{"receive after 1 -> @ end",
			"Push 1, Timer, <y>:, Peek <z>, Next, Jump <y>, <z>:, @",
			"Push 1, Timer, <y>:, Peek <z>, Next, Jump <y>, <z>:, @@"},
		{"receive 2 -> 3 after 4 -> 1, @ end",
			"Push 4, Timer, <y>:, Peek <z>, Match 2 else <x>, Take, Push 3, Jump <e>, <x>:, Next, Jump <y>, <z>:, Push 1, Pop, @, <e>:",
			"Push 4, Timer, <y>:, Peek <z>, Match 2 else <x>, Take, Push 3, Ret, <x>:, Next, Jump <y>, <z>:, Push 1, Pop, @@"},
	}
}

// bodies: what stands ahead of and behind an expression in a function's body.
func bodies() []sample {
	return []sample{
		{"@", "", "@@"}, {"@, 1", "", "@, Pop, Push 1, Ret"}, {"0, @", "", "Push 0, Pop, @@"}, {"0, @, f()", "", "Push 0, Pop, @, Pop, Tail 2/0"}, {"f(), @", "", "Call 2/0, Pop, @@"},
	}
}

// putter puts samples into one another; each time the places have names of
// their own.
type putter struct{ n int }

func (p *putter) own(s string) string {
	p.n++
	return strings.ReplaceAll(s, "<", fmt.Sprint("<", p.n, "."))
}

// fill: a template with the codes of s, each time with places of their own.
func (p *putter) fill(s, code, last string) string {
	var out strings.Builder
	for i, part := range strings.Split(p.own(s), "@@") {
		if i > 0 {
			out.WriteString(p.own(last))
		}
		for j, piece := range strings.Split(part, "@") {
			if j > 0 {
				out.WriteString(p.own(code))
			}
			out.WriteString(piece)
		}
	}
	return out.String()
}

func (p *putter) put(c, s sample) sample {
	out := sample{text: strings.ReplaceAll(c.text, "@", s.text), code: p.fill(c.code, s.code, "")}
	if c.last != "" {
		out.last = p.fill(c.last, s.code, s.lastCode())
	}
	return out
}

func TestP19_1Rows(t *testing.T) {
	p := &putter{}
	for _, s := range leaves() {
		for _, b := range bodies() {
			whole := p.put(b, s)
			wantLast(t, "a row", whole.text, whole.last)
		}
	}
}

// Each row within each other one, at each place of it.
func TestP19_1RowsWithinRows(t *testing.T) {
	p := &putter{}
	for _, s := range leaves() {
		for _, c := range contexts() {
			for _, b := range bodies()[:3] {
				whole := p.put(b, p.put(c, s))
				wantLast(t, "a row in a row", whole.text, whole.last)
			}
		}
	}
}

func TestP19_1RowsThriceWithin(t *testing.T) {
	p := &putter{}
	l := leaves()
	some := []sample{l[1], l[10], l[26], l[31], l[35], l[37], l[40], l[len(l)-1]}
	for i, outer := range contexts() {
		for j, inner := range contexts() {
			s := some[(i+j)%len(some)]
			b := bodies()[(i+2*j)%2*2]
			whole := p.put(b, p.put(outer, p.put(inner, s)))
			wantLast(t, "rows in one another", whole.text, whole.last)
		}
	}
}

func TestP19_1Signs(t *testing.T) {
	for i, sign := range signs {
		wantLast(t, sign, "A "+sign+" B", fmt.Sprintf("Load 0, Load 1, Bin %d, Ret", i+1))
		wantLast(t, sign, "7 "+sign+" f(), a", fmt.Sprintf("Push 7, Call 2/0, Bin %d, Pop, Push a, Ret", i+1))
		wantLast(t, sign, "(f() "+sign+" {}) "+sign+" - 1", fmt.Sprintf("Call 2/0, Tuple 0, Bin %d, Push 1, Neg, Bin %d, Ret", i+1, i+1))
		wantLast(t, sign, "1 "+sign+" (2 "+sign+" 3)", fmt.Sprintf("Push 1, Push 2, Push 3, Bin %d, Bin %d, Ret", i+1, i+1))
	}
	wantLast(t, "levels", "1 + 2 * 3 - 4 / 5 rem 6 < - 7", "Push 1, Push 2, Push 3, Bin 3, Bin 1, Push 4, Push 5, Bin 4, Push 6, Bin 5, Bin 2, Push 7, Neg, Bin 8, Ret")
	wantLast(t, "from the left", "1 - 2 - 3", "Push 1, Push 2, Bin 2, Push 3, Bin 2, Ret")
}

// Each builtin by its number, with its arguments in their order; a builtin is
// never called as a function, last or not.
func TestP19_1Builtins(t *testing.T) {
	for i, b := range builtins {
		name, args, _ := strings.Cut(b, "/")
		n := int(args[0] - '0')
		text := name + "(" + strings.Join(numbered("", n), ", ") + ")"
		code := ""
		for k := range n {
			code += fmt.Sprint("Push ", k, ", ")
		}
		code += fmt.Sprint("Bif ", i+1)
		wantLast(t, b, text, code+", Ret")
		wantLast(t, b, text+", A", code+", Pop, Load 0, Ret")
		wantLast(t, b, "case 1 of _ -> "+text+" end", "Push 1, Match _ else <x>, Pop, "+code+", Ret, <x>:, Fail 2")
	}
}

// A function may have a builtin's name with another number of arguments.
func TestP19_1BuiltinsNames(t *testing.T) {
	wantCode(t, "builtins' names", "main() -> self(self(), hd()). hd() -> hd(1). self(A, B) -> exit(A, B, 1). exit(_, _, C) -> exit(C). spawn() -> spawn(1, 2), spawn(1, 2, 3), spawn().",
		"Bif 1, Call 1/0, Tail 2/2", "Push 1, Bif 24, Ret", "Load 0, Load 1, Push 1, Tail 3/3", "Load 2, Bif 11, Ret", "Push 1, Push 2, Bif 5, Pop, Push 1, Push 2, Push 3, Bif 6, Pop, Tail 4/0")
}

// The function that is called is that of the name and as many arguments,
// wherever it stands.
func TestP19_1Calls(t *testing.T) {
	text, code := "", ""
	for n := range 9 {
		args := strings.Join(numbered("", n), ", ")
		text += "f(" + args + "), "
		for k := range n {
			code += fmt.Sprint("Push ", k, ", ")
		}
		code += fmt.Sprintf("Call %d/%d, Pop, ", 9-n, n)
	}
	s := "main() -> " + text + "f(). "
	for n := 8; n >= 0; n-- {
		s += "f(" + strings.Join(numbered("P", n), ", ") + ") -> main(). "
	}
	want := []string{code + "Tail 9/0"}
	for range 9 {
		want = append(want, "Tail 0/0")
	}
	wantCode(t, "f with 0 to 8 arguments", s, want...)
	wantCode(t, "two that call each other", "a() -> main(), b(). main() -> a(), main(). b() -> b(), a().", "Call 1/0, Pop, Tail 2/0", "Call 0/0, Pop, Tail 1/0", "Call 2/0, Pop, Tail 0/0")
}

func TestP19_1Long(t *testing.T) {
	const most = api.MaxWide
	row := func(head, between string) string { return strings.Repeat(head+between, most-1) + head }
	wantLast(t, "the longest tuple", "{"+row("a", ",")+"}", row("Push a", ", ")+", Tuple 256, Ret")
	wantLast(t, "the longest list", "["+row("A", ",")+"], 1", row("Load 0", ", ")+", List 256, Pop, Push 1, Ret")
	wantLast(t, "a long body", row("B", ","), row("Load 1", ", Pop, ")+", Ret")
	wantLast(t, "a long pattern", "{"+row("A", ",")+"} = 1", "Push 1, Match {"+row("B0", ",")+"} else <x>, Jump <e>, <x>:, Fail 1, <e>:, Ret")
	clauses, code := "", "Load 0, "
	for i := range most {
		clauses += fmt.Sprintf("; %d -> %d", i, i+1)
		code += fmt.Sprintf("<n%d>:, Match %d else <n%d>, Pop, Push %d, Ret, ", i, i, i+1, i+1)
	}
	wantLast(t, "very many clauses", "case A of "+clauses[2:]+" end", code+"<n256>:, Fail 2")
	wantLast(t, "signs from the left", row("A", " + "), "Load 0"+strings.Repeat(", Load 0, Bin 1", most-1)+", Ret")
}

// The chapter's examples.
func TestP19_1Examples(t *testing.T) {
	wantCode(t, "example", "main() -> X = 1, X + 2.", "Push 1, Match V0 else 3, Jump 4, Fail 1, Pop, Load 0, Push 2, Bin 1, Ret")
	wantCode(t, "example", "main() -> main().", "Tail 0/0")
}
