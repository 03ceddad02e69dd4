package check_test

import (
	"math"
	"strconv"
	"strings"
	"testing"

	"rookery/check"
)

func wantBuiltin(t *testing.T, name string, args, want int) {
	t.Helper()
	if got := check.Builtin(name, args); got != want {
		t.Errorf("P17.2: Builtin(%q, %d): %d; want %d", brief(name), args, got, want)
	}
}

func TestP17_2Builtin(t *testing.T) {
	numbers := map[string]int{}
	for i, b := range strings.Fields(builtinRow) {
		numbers[b] = i + 1
	}
	if len(numbers) != 26 || numbers["self/0"] != 1 || numbers["spawn/3"] != 6 || numbers["cons/2"] != 26 {
		t.Fatal("the row of builtins is not the chapter's")
	}
	for b := range numbers {
		name, _, _ := strings.Cut(b, "/")
		for n := -3; n < 300; n++ {
			wantBuiltin(t, name, n, numbers[name+"/"+strconv.Itoa(n)])
		}
		for _, n := range []int{math.MinInt, math.MaxInt, 1 << 32, 1<<32 + 1, 1<<32 + 2, -1 << 32, 256, 256 + 1, 256 + 2, 65536 + 1} {
			wantBuiltin(t, name, n, 0)
		}
		for n := range 4 {
			for _, s := range []string{name + " ", " " + name, name + "s", name[1:], name[:len(name)-1], strings.ToUpper(name), name + "\x00", name + "/" + strconv.Itoa(n), b, name + name} {
				if numbers[s+"/"+strconv.Itoa(n)] == 0 {
					wantBuiltin(t, s, n, 0)
				}
			}
		}
	}
	for _, s := range []string{"", "main", "f", "_", "X", "+", "case", "rem", "re", "im", "size", "abs", "send", "hdtl", "self node", "\xff", strings.Repeat("self", 10000)} {
		for n := -1; n < 10; n++ {
			wantBuiltin(t, s, n, 0)
		}
	}
}

func TestP17_2Arity(t *testing.T) {
	want := func(n, arity int) {
		t.Helper()
		if got := check.Arity(n); got != arity {
			t.Errorf("P17.2: Arity(%d): %d; want %d", n, got, arity)
		}
	}
	for i, b := range strings.Fields(builtinRow) {
		name, args, _ := strings.Cut(b, "/")
		arity, _ := strconv.Atoi(args)
		want(i+1, arity)
		if got := check.Builtin(name, check.Arity(i+1)); got != i+1 {
			t.Errorf("P17.2: Builtin(%s, Arity(%d)): %d", name, i+1, got)
		}
	}
	for n := 27; n < 600; n++ {
		want(n, -1)
		want(26-n, -1)
	}
	for _, n := range []int{0, -1, 27, 1 << 31, 1 << 32, 1<<32 + 1, 1<<32 + 26, 1 << 62, -1 << 32, 1 - 1<<32, math.MaxInt, math.MinInt, math.MinInt + 1, math.MinInt + 26} {
		want(n, -1)
	}
}
