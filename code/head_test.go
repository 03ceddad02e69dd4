package code_test

import (
	"math"
	"strings"
	"testing"

	"rookery/api"
	"rookery/code"
)

func TestP18_1Names(t *testing.T) {
	long := strings.Repeat("a", 31)
	for _, s := range []string{"a", "z", "f", "main", "aZ09_", "a_", "self", "case", "rem", "v0", long, long + "a", long + "_", long + "9"} {
		wantOne(t, "an atom", named(s, 2), 0, api.OK)
	}
	for _, s := range []string{"", "A", "Z", "_", "_a", "0", "9a", " ", " a", "a ", "a-b", "a.b", "a\x00", "\x00", "a\n", "`", "{", "a{", "a@", "aé", "é", "a\xff", "V0", long + "aa", long + "a ", strings.Repeat("a", 64), strings.Repeat("a", 1<<20)} {
		wantOne(t, "no atom", named(s, 2), 0, api.ErrCodeFun)
	}
}

// far: numbers that are wrong wherever a small one is wanted.
var far = []int{math.MinInt, math.MinInt + 1, math.MinInt32 - 1, math.MinInt32, -1 << 16, -257, -256, 257 << 8, 1 << 16, math.MaxInt32, math.MaxInt32 + 1, 1 << 32, 1<<32 + 1, math.MaxInt - 1, math.MaxInt}

func TestP18_1Arity(t *testing.T) {
	for n := range 9 {
		f := named("f", n)
		wantOne(t, "Arity 0 to 8", f, 0, api.OK)
		f.Slots = 72
		wantOne(t, "Arity 0 to 8", f, 0, api.OK)
	}
	for _, n := range append([]int{-2, -1, 9, 10, 16, 72, 73}, far...) {
		for _, slots := range []int{-1, 0, 1, 9, 72, n} {
			f := named("f", n)
			f.Slots = slots
			wantOne(t, "no Arity", f, 0, api.ErrCodeFun)
		}
	}
}

func TestP18_1Slots(t *testing.T) {
	for arity := range 9 {
		f := named("f", arity)
		for slots := -2; slots <= 80; slots++ {
			f.Slots = slots
			e := api.OK
			if slots < arity || slots > 72 {
				e = api.ErrCodeFun
			}
			wantOne(t, "Slots", f, 0, e)
		}
		for _, slots := range far {
			f.Slots = slots
			wantOne(t, "Slots", f, 0, api.ErrCodeFun)
		}
	}
}

func TestP18_1Twice(t *testing.T) {
	f, g := named("f", 1), named("g", 1)
	wantCheck(t, "one name and Arity", funs(f, f), 1, 0, api.ErrCodeTwice)
	wantRight(t, "one name, unlike Arity", named("f", 0), f, named("f", 2), named("f", 8))
	wantRight(t, "unlike names", f, g, named("fg", 1), named("ff", 1))
	wantCheck(t, "the second and the third", funs(g, f, f), 2, 0, api.ErrCodeTwice)
	wantCheck(t, "the first and the third", funs(f, g, f), 2, 0, api.ErrCodeTwice)
	wantCheck(t, "all three", funs(f, f, f), 1, 0, api.ErrCodeTwice)
	wantCheck(t, "two pairs", funs(g, f, f, g), 2, 0, api.ErrCodeTwice)
	l := numbered(63)
	for i := range l {
		wantCheck(t, "the 64th and another one", append(numbered(63), l[i]), 63, 0, api.ErrCodeTwice)
	}
	other := named("f", 1)
	other.Slots = 9
	other.Ins = row(one(), one(), ret())
	wantCheck(t, "unlike Slots and instructions", funs(f, other), 1, 0, api.ErrCodeTwice)
}

func TestP18_1HowManyInstructions(t *testing.T) {
	for _, n := range []int{2, 3, 100, 3998, 3999, 4000} {
		f := fun(ones(1), ret())
		f.Ins = append(f.Ins, ones(n-2)...)
		wantOne(t, "up to 4000 instructions", f, 0, api.OK)
	}
	wantOne(t, "one instruction", fun(op(api.OJump)), 0, api.OK)
	for _, n := range []int{4001, 4002, 8000, 1 << 16} {
		wantOne(t, "more than 4000 instructions", fun(one(), ret(), ones(n-2)), 0, api.ErrCodeMany)
	}
	wantOne(t, "no instruction", fun(), 0, api.ErrCodeMany)
	wantCheck(t, "no instruction, not even a list", funs(api.Fun{Name: "f", Ins: []api.Ins{}}), 0, 0, api.ErrCodeMany)
	f := fun(one())
	for range 1999 {
		f.Ins = append(f.Ins, op(api.ONeg), op(api.ONeg))
	}
	f.Ins = append(f.Ins, ret())
	wantOne(t, "4000 instructions, all of which are gone through", f, 0, api.OK)
}

func TestP18_2Find(t *testing.T) {
	l := funs(named("a", 1), named("a", 0), named("b", 0), named("a", 1), named("b", 2), api.Fun{}, api.Fun{Name: "No atom", Arity: -7}, api.Fun{Name: "big", Arity: math.MaxInt})
	for i, f := range l {
		want := i
		if i == 3 {
			want = 0
		}
		if got := code.Find(l, f.Name, f.Arity); got != want {
			t.Errorf("P18.2: Find of %q, %d: %d; want %d", f.Name, f.Arity, got, want)
		}
	}
	for _, c := range []struct {
		name  string
		arity int
	}{{"c", 0}, {"a", 2}, {"b", 1}, {"a", -1}, {"A", 1}, {"a ", 1}, {"", 1}, {"ab", 0}, {"No atom", 7}, {"big", math.MinInt}, {"main", 0}} {
		if got := code.Find(l, c.name, c.arity); got != -1 {
			t.Errorf("P18.2: Find of %q, %d, which is not there: %d", c.name, c.arity, got)
		}
	}
	for _, l := range [][]api.Fun{nil, {}} {
		if got := code.Find(l, "", 0); got != -1 {
			t.Errorf("P18.2: Find among no functions: %d", got)
		}
	}
	many := numbered(1000)
	for i, f := range many {
		if got := code.Find(many, f.Name, f.Arity); got != i {
			t.Errorf("P18.2: Find of %q, %d among 1000: %d; want %d", f.Name, f.Arity, got, i)
		}
	}
	if got := code.Find(append(many, many...), "g999", 0); got != 999 {
		t.Errorf("P18.2: Find of one that is there twice: %d; want 999", got)
	}
}
