package code_test

import (
	"math"
	"testing"

	"rookery/api"
	"rookery/code"
)

// user: an instruction that takes so many values, leaves so many where the next
// one is next, and whether one is wanted.
type user struct {
	in          api.Ins
	takes, puts int
	goesOn      bool
}

// users: of each Op, with the numbers at its edges. (OCall and OTail lead to the
// functions of callees.)
func users() []user {
	out := []user{
		{one(), 0, 1, true}, {op(api.OLoad, 1), 0, 1, true}, {op(api.OPop), 1, 0, true}, {op(api.ONeg), 1, 1, true}, {op(api.ORet), 1, 0, false}, {op(api.OSend), 2, 1, true},
		{op(api.OTimer), 1, 0, true}, {op(api.ONext), 1, 0, true}, {op(api.OTake), 1, 0, true}, {op(api.OFail, 1), 1, 0, false}, {op(api.OFail, 2), 1, 0, false}, {op(api.OFail, 3), 1, 0, false},
	}
	for _, n := range []int{0, 1, 2, 3, 100, 255, 256} {
		out = append(out, user{op(api.OTuple, n), n, 1, true}, user{op(api.OList, n), n, 1, true})
	}
	for n := 1; n <= 11; n++ {
		out = append(out, user{op(api.OBin, n), 2, 1, true})
	}
	for n := range 9 {
		out = append(out, user{op(api.OCall, 1+n, n), n, 1, true}, user{op(api.OTail, 1+n, n), n, 0, false})
	}
	for i, n := range []int{0, 0, 0, 0, 2, 3, 1, 1, 1, 1, 1, 2, 1, 2, 1, 2, 1, 1, 0, 2, 1, 1, 2, 1, 1, 2} {
		out = append(out, user{op(api.OBif, i+1), n, 1, true})
	}
	return out
}

func callees(f api.Fun) []api.Fun {
	out := funs(f)
	for n := range 9 {
		out = append(out, named("g", n))
	}
	return out
}

// stay: an instruction that may stand at any height, if it is the at-th.
func stay(at int) api.Ins { return op(api.OJump, at) }

func TestP18_1Takes(t *testing.T) {
	for _, u := range users() {
		for _, height := range []int{0, 1, 2, 3, u.takes - 1, u.takes, u.takes + 1, 298} {
			if height < 0 {
				continue
			}
			f := fun(ones(height), u.in, stay(height+1))
			if height < u.takes {
				wantCheck(t, "it takes more than there is", callees(f), 0, height, api.ErrCodeStack)
				continue
			}
			wantRight(t, "it takes what is there", callees(f)...)
			want := make([]int, height+2)
			for i := range want {
				want[i] = i
			}
			want[height+1] = height - u.takes + u.puts
			if !u.goesOn {
				want[height+1] = -1
			}
			wantList(t, "heights around "+show(funs(fun(u.in))), code.Heights(callees(f), 0), want)
		}
	}
}

func TestP18_1NextBehindTheLast(t *testing.T) {
	for _, u := range users() {
		for _, height := range []int{u.takes, u.takes + 1} {
			l := callees(fun(ones(height), u.in))
			if u.goesOn {
				wantCheck(t, "the next one is wanted behind the last", l, 0, height, api.ErrCodeStack)
			} else {
				wantRight(t, "no next one is wanted", l...)
			}
		}
	}
	wantOne(t, "OJump is the last", fun(one(), op(api.OPop), op(api.OJump)), 0, api.OK)
	wantOne(t, "OJump onto itself is the last", fun(one(), op(api.OPop), op(api.OJump, 2)), 0, api.OK)
	wantOne(t, "OMatch is the last", fun(one(), fit(anything(), 1)), 1, api.ErrCodeStack)
	wantOne(t, "OPeek is the last", fun(op(api.OPeek)), 0, api.ErrCodeStack)
	wantOne(t, "OPeek is the last", fun(op(api.OJump, 1), op(api.OPeek)), 1, api.ErrCodeStack)
	wantOne(t, "a last one that nothing reaches", fun(one(), ret(), op(api.OPeek)), 0, api.OK)
}

func TestP18_1MaxStack(t *testing.T) {
	wantOne(t, "300 values", fun(ones(300), ret()), 0, api.OK)
	wantOne(t, "301 values", fun(ones(301), ret()), 300, api.ErrCodeStack)
	wantOne(t, "302 values", fun(ones(302), ret()), 300, api.ErrCodeStack)
	for _, u := range users() {
		for _, height := range []int{299, 300} {
			l := callees(fun(ones(height), u.in, stay(height+1)))
			if u.goesOn && height-u.takes+u.puts > 300 {
				wantCheck(t, "it puts more on than make 300", l, 0, height, api.ErrCodeStack)
			} else {
				wantRight(t, "it does not put more on than make 300", l...)
			}
		}
	}
	for _, height := range []int{299, 300, 301} {
		e, at := api.OK, 0
		if height > 299 {
			e, at = api.ErrCodeStack, 300
		}
		wantOne(t, "OPeek", fun(ones(height), op(api.OPeek, height), op(api.OJump, height+1)), at, e)
	}
	wantOne(t, "OMatch", fun(ones(300), fit(anything(), 301), ret()), 0, api.OK)
	wantOne(t, "OJump", fun(ones(300), op(api.OJump, 301), op(api.OJump, 300)), 0, api.OK)
	wantOne(t, "up and down", fun(ones(300), op(api.OTuple, 256), ones(255), op(api.OList, 256), pops(44), ones(299), ret()), 0, api.OK)
	wantOne(t, "up and down and up", fun(ones(300), op(api.OTuple, 256), ones(256), op(api.OList, 256), ret()), 556, api.ErrCodeStack)
}

func TestP18_1WaysThatMeet(t *testing.T) {
	wantHeights(t, "ahead, with one height", fun(op(api.OPeek, 3), op(api.OPop), op(api.OJump, 3), one(), ret()), 0, 1, 0, 0, 1)
	wantOne(t, "ahead, with unlike ones", fun(op(api.OPeek, 2), op(api.OJump, 2), ones(1), ret()), 1, api.ErrCodeStack)
	wantHeights(t, "back, with one height", fun(op(api.OPeek, 3), op(api.ONext), op(api.OJump), one(), ret()), 0, 1, 0, 0, 1)
	wantOne(t, "back, with unlike ones", fun(op(api.OPeek, 2), op(api.OJump), ones(1), ret()), 1, api.ErrCodeStack)
	wantOne(t, "back, with unlike ones", fun(one(), one(), op(api.OJump, 1)), 2, api.ErrCodeStack)
	wantHeights(t, "onto itself", fun(one(), one(), op(api.OJump, 2)), 0, 1, 2)
	wantHeights(t, "OMatch onto itself", fun(one(), fit(anything(), 1), ret()), 0, 1, 1)
	wantHeights(t, "OPeek onto itself", fun(op(api.OPeek), ret()), 0, 1)
	wantHeights(t, "OMatch, both ways to the next one", fun(one(), fit(anything(), 2), ret()), 0, 1, 1)
	wantOne(t, "OPeek, both ways to the next one", fun(op(api.OPeek, 1), op(api.OJump, 1)), 0, api.ErrCodeStack)
	wantOne(t, "OPeek, both ways to the next one", fun(one(), op(api.OPeek, 2), op(api.OJump, 2)), 1, api.ErrCodeStack)
	wantOne(t, "OPeek back to one of another height", fun(one(), op(api.OPeek), ret()), 1, api.ErrCodeStack)
	wantOne(t, "OMatch back to one of another height", fun(one(), fit(anything(), 0), ret()), 1, api.ErrCodeStack)
	wantHeights(t, "OMatch back to one of its height", fun(one(), op(api.ONeg), fit(anything(), 1), ret()), 0, 1, 1, 1)
	wantHeights(t, "OMatch ahead", fun(one(), fit(anything(), 4), op(api.OPop), op(api.OJump, 5), op(api.OPop), one(), ret()), 0, 1, 1, 0, 1, 0, 1)
	wantOne(t, "what is next was reached by OMatch with another height", fun(ones(1), fit(anything(), 3), op(api.OPop), op(api.OPop), op(api.OJump, 4)), 2, api.ErrCodeStack)
}

// What nothing reaches has no height, and nothing of step 3 is wrong with it.
func TestP18_1Unreached(t *testing.T) {
	wantHeights(t, "behind ORet", fun(one(), ret(), ret(), op(api.OSend), op(api.OPop)), 0, 1, -1, -1, -1)
	wantHeights(t, "behind OFail", fun(one(), op(api.OFail, 2), op(api.OTuple, 256), ret()), 0, 1, -1, -1)
	wantHeights(t, "behind OTail", fun(op(api.OTail), op(api.OPop), ret()), 0, -1, -1)
	wantHeights(t, "behind OJump", fun(op(api.OJump, 2), ret(), one(), ret()), 0, -1, 0, 1)
	wantHeights(t, "they reach one another, and what is reached", fun(one(), ret(), op(api.OJump), op(api.OJump, 2), fit(anything(), 0), op(api.OPeek)), 0, 1, -1, -1, -1, -1)
	wantHeights(t, "too many values", fun(op(api.OJump), ones(400)), append([]int{0}, repeat(-1, 400)...)...)
	wantOne(t, "a field is wrong all the same", fun(op(api.OJump), op(api.OPop, 1)), 1, api.ErrCodeIns)
	wantOne(t, "a jump is wrong all the same", fun(op(api.OJump), op(api.OJump, 2)), 1, api.ErrCodeJump)
}

func repeat(n, times int) []int {
	out := make([]int, times)
	for i := range out {
		out[i] = n
	}
	return out
}

// Where more than one would be told: the least number that has a height and was
// not gone through comes first, wherever it was reached from.
func TestP18_1WhichIsTold(t *testing.T) {
	wantOne(t, "the one behind is less than A", fun(op(api.OPeek, 3), op(api.OSend), ret(), ret()), 1, api.ErrCodeStack)
	wantOne(t, "A is less than the one behind", fun(op(api.OJump, 3), ret(), ret(), op(api.OPeek, 1), op(api.OSend), ret()), 1, api.ErrCodeStack)
	wantOne(t, "A is less than itself", fun(op(api.OJump, 2), ret(), op(api.OPeek, 1), op(api.OPop), ret()), 1, api.ErrCodeStack)
	wantOne(t, "back ahead of on", fun(op(api.OJump, 4), one(), op(api.OSend), ret(), op(api.OPeek, 1), op(api.OSend), ret()), 2, api.ErrCodeStack)
	wantOne(t, "two ways are left, the less one first", fun(op(api.OPeek, 4), fit(anything(), 6), op(api.OPop), op(api.OJump, 4), ret(), one(), op(api.OSend), ret()), 4, api.ErrCodeStack)
	wantOne(t, "the one that was reached last is the least", fun(op(api.OJump, 5), op(api.OPop), ret(), one(), op(api.OJump, 1), op(api.OPeek, 3), op(api.OSend), ret()), 2, api.ErrCodeStack)
	// 0 reaches 1 and 6; 1 leads to 5, and 5, less than 6, back to 3: so 3 comes ahead of 6.
	wantOne(t, "less than what is left", fun(op(api.OPeek, 6), op(api.OPop), op(api.OJump, 5), op(api.OPop), ret(), op(api.OJump, 3), ret()), 3, api.ErrCodeStack)
	// 3 has the height 1 by 1, ahead of 2, which leads there with another one.
	wantOne(t, "told where the second one leads there", fun(one(), fit(anything(), 3), one(), op(api.OPop), one(), ret()), 2, api.ErrCodeStack)
	// 4 has the height 1 by 1, ahead of 3, both of whose ways lead there with another one.
	wantOne(t, "told where the second one leads there, both ways", fun(one(), fit(anything(), 4), one(), fit(anything(), 4), ret()), 3, api.ErrCodeStack)
}

// The order of going through tells which of two ways that meet is the second.
func TestP18_1LeastFirst(t *testing.T) {
	// 0 leads to 7; 8 is an OMatch to 9 and 2. 2 is gone through ahead of 9, and leads to 10 with 1; 9 leads there with 2.
	f := fun(op(api.OJump, 7), ret(), op(api.OJump, 10), ret(), ret(), ret(), ret(), one(), fit(anything(), 2), one(), ret())
	wantOne(t, "the greater one is the second", f, 9, api.ErrCodeStack)
	// The same, but that what leads there with 2 is the less one.
	f = fun(op(api.OJump, 7), ret(), one(), op(api.OJump, 10), ret(), ret(), ret(), one(), fit(anything(), 2), op(api.OJump, 10), ret())
	wantOne(t, "the greater one is the second", f, 9, api.ErrCodeStack)
}

// Many that are left at once, in unlike orders of coming: the least is next.
func TestP18_1ManyAreLeft(t *testing.T) {
	for _, step := range []int{1, 7, 11, 30, 60} {
		const n = 61
		// n times OMatch to a place of its own, n places; all of them lead to the
		// end, one of them with another height.
		for bad := range n {
			var l []api.Ins
			l = append(l, one())
			for i := range n {
				l = append(l, fit(anything(), 1+n+1+2*(i*step%n)))
			}
			end := 1 + n + 1 + 2*n
			l = append(l, op(api.OJump, 1+n))
			for i := range n {
				in := op(api.ONeg)
				if i == bad {
					in = one()
				}
				l = append(l, in, op(api.OJump, end))
			}
			l = append(l, ret())
			at := 1 + n + 1 + 2*bad + 1
			if bad == 0 {
				at += 2
			}
			wantOne(t, "many are left", fun(l), at, api.ErrCodeStack)
		}
	}
}

// A function ahead calls one behind it whose Arity may not be: B is right, and
// it takes so many.
func TestP18_1CallsOfWrongFunctions(t *testing.T) {
	for _, n := range []int{9, 10, 299, 300} {
		for _, kind := range []int{api.OCall, api.OTail} {
			f := fun(ones(n), op(kind, 1, n), stay(n+1))
			wantCheck(t, "too great an Arity", funs(f, named("g", n)), 1, 0, api.ErrCodeFun)
			f = fun(ones(n-1), op(kind, 1, n), stay(n))
			wantCheck(t, "too great an Arity", funs(f, named("g", n)), 0, n-1, api.ErrCodeStack)
			wantCheck(t, "the other one first", funs(named("g", n), f), 0, 0, api.ErrCodeFun)
		}
	}
	for _, n := range []int{math.MaxInt, math.MaxInt - 1, math.MaxInt - 300, math.MaxInt32, 1 << 32, 301} {
		for _, kind := range []int{api.OCall, api.OTail} {
			wantCheck(t, "a very great Arity", funs(fun(op(kind, 1, n), stay(1)), named("g", n)), 0, 0, api.ErrCodeStack)
			wantCheck(t, "a very great Arity", funs(fun(ones(300), op(kind, 1, n), stay(301)), named("g", n)), 0, 300, api.ErrCodeStack)
		}
	}
	for _, n := range []int{-1, -2, -299} {
		wantCheck(t, "an Arity below 0", funs(fun(op(api.OCall, 1, n), stay(1)), named("g", n)), 1, 0, api.ErrCodeFun)
		wantCheck(t, "an Arity below 0", funs(fun(op(api.OTail, 1, n), stay(1)), named("g", n)), 1, 0, api.ErrCodeFun)
	}
	for _, n := range []int{-300, -301, math.MinInt32, math.MinInt + 300, math.MinInt + 1, math.MinInt} {
		wantCheck(t, "an Arity far below 0", funs(fun(op(api.OCall, 1, n), stay(1)), named("g", n)), 0, 0, api.ErrCodeStack)
		wantCheck(t, "an Arity far below 0", funs(fun(op(api.OTail, 1, n), stay(1)), named("g", n)), 1, 0, api.ErrCodeFun)
	}
}
