package code_test

import (
	"testing"

	"rookery/api"
	"rookery/code"
)

func TestP18_2HeightsOfWhichFunction(t *testing.T) {
	l := funs(fun(one(), ret()), named("g", 0), named("h", 3))
	l[1].Ins = row(one(), one(), op(api.OSend), ret())
	l[2].Ins = row(op(api.OJump, 2), ret(), op(api.OJump, 2))
	wantList(t, "the first", code.Heights(l, 0), []int{0, 1})
	wantList(t, "the second", code.Heights(l, 1), []int{0, 1, 2, 1})
	wantList(t, "the last", code.Heights(l, 2), []int{0, -1, 0})
	for _, n := range append([]int{-2, -1, 3, 4, 64}, far...) {
		wantList(t, "no such function", code.Heights(l, n), nil)
	}
	all := numbered(64)
	for n := -1; n <= 65; n++ {
		var want []int
		if 0 <= n && n < 64 {
			want = []int{0, 1}
		}
		wantList(t, "one of 64", code.Heights(all, n), want)
	}
}

// Nothing of any function, if one of them is wrong.
func TestP18_2HeightsWhereCheckRefuses(t *testing.T) {
	for _, l := range [][]api.Fun{nil, {}, numbered(65), make([]api.Fun, 1)} {
		for n := -1; n <= len(l); n++ {
			wantList(t, "no right functions", code.Heights(l, n), nil)
		}
	}
	for _, c := range eachAlone() {
		for _, l := range [][]api.Fun{funs(c.f), funs(c.f, named("g", 0)), funs(named("g", 0), c.f), funs(named("g", 0), named("h", 0), c.f)} {
			for n := -1; n <= len(l); n++ {
				wantList(t, c.what, code.Heights(l, n), nil)
			}
		}
	}
	l := funs(named("f", 0), named("g", 0), named("f", 0))
	for n := -1; n <= 3; n++ {
		wantList(t, "twice", code.Heights(l, n), nil)
	}
}

func TestP18_2GreatHeights(t *testing.T) {
	f := fun(ones(300), pops(300), ones(1), ret())
	var want []int
	for i := range 300 {
		want = append(want, i)
	}
	for i := range 300 {
		want = append(want, 300-i)
	}
	wantHeights(t, "up to 300 and down", f, append(want, 0, 1)...)
	f = fun(op(api.OJump, 3999), ones(3998), op(api.OJump, 3999))
	wantHeights(t, "4000 instructions, few of them reached", f, append(append([]int{0}, repeat(-1, 3998)...), 0)...)
	// From the last one to the first, each one by its own jump back.
	f = fun(op(api.OJump, 3999), op(api.OJump, 1))
	for i := 2; i < 4000; i++ {
		f.Ins = append(f.Ins, op(api.OJump, i-1))
	}
	wantHeights(t, "4000 jumps back", f, repeat(0, 4000)...)
}
