package code_test

import (
	"math"
	"testing"

	"rookery/api"
	"rookery/term"
)

// slotsHere: of the function in which wantIns tries instructions.
const slotsHere = 5

// unreached: a function of six instructions of which only the first one is ever
// done, so that whatever stands behind it is looked at by itself.
func unreached(in api.Ins, at int) api.Fun {
	f := api.Fun{Name: "f", Arity: 3, Slots: slotsHere, Ins: row(op(api.OJump), ret(), op(api.OSend), op(api.OPop), op(api.OTimer), op(api.OTake))}
	f.Ins[at] = in
	return f
}

// wantIns: what is wrong with an instruction by itself. (There are three
// functions, whose Arity is 3, 0 and 8.)
func wantIns(t testing.TB, what string, in api.Ins, e api.Errno) {
	t.Helper()
	for _, at := range []int{1, 3, 5} {
		f := unreached(in, at)
		ins := at
		if e == api.OK {
			ins = 0
		}
		wantCheck(t, what, funs(f, named("g", 0), named("h", 8)), 0, ins, e)
	}
}

// plain: of each Op an instruction that is right.
func plain() []api.Ins {
	out := row(one(), op(api.OLoad), op(api.OPop), op(api.OTuple), op(api.OList), op(api.OBin, 1), op(api.ONeg), fit(anything(), 0), op(api.OJump),
		op(api.OCall, 1), op(api.OTail, 1), ret(), op(api.OBif, 1), op(api.OSend), op(api.OFail, 1), op(api.OTimer), op(api.OPeek), op(api.ONext), op(api.OTake))
	return out
}

func TestP18_1PlainInstructions(t *testing.T) {
	for i, in := range plain() {
		if in.Op != i+1 {
			t.Fatalf("the instruction %d is one of %d", i, in.Op)
		}
		wantIns(t, "an instruction that may be", in, api.OK)
	}
}

func TestP18_1Ops(t *testing.T) {
	for _, kind := range append([]int{0, 20, 21, -1, -2, -19, 32, 127, 128, 255, 256, 257, 258, 275, 276}, far...) {
		for _, in := range append(plain(), api.Ins{}) {
			in.Op = kind
			wantIns(t, "no Op", in, api.ErrCodeIns)
		}
	}
}

// edges: of an Op's A, from the first to the last that may be.
type edges struct{ kind, first, last int }

func TestP18_1NumbersOfA(t *testing.T) {
	for _, c := range []edges{
		{api.OLoad, 0, slotsHere - 1}, {api.OTuple, 0, 256}, {api.OList, 0, 256}, {api.OBin, 1, 11}, {api.OBif, 1, 26}, {api.OFail, 1, 3},
	} {
		for a := -300; a <= 600; a++ {
			e := api.OK
			if a < c.first || a > c.last {
				e = api.ErrCodeIns
			}
			wantIns(t, "A", op(c.kind, a), e)
		}
		for _, a := range far {
			wantIns(t, "A", op(c.kind, a), api.ErrCodeIns)
		}
	}
}

func TestP18_1SlotsOfLoad(t *testing.T) {
	for slots := range 73 {
		for _, a := range []int{-1, 0, 1, slots - 1, slots, slots + 1, 71, 72} {
			f := api.Fun{Name: "f", Arity: min(slots, 2), Slots: slots, Ins: row(op(api.OLoad, a), ret())}
			e := api.ErrCodeIns
			if 0 <= a && a < slots {
				e = api.OK
			}
			wantOne(t, "A of OLoad", f, 0, e)
		}
	}
}

func TestP18_1Places(t *testing.T) {
	for _, in := range row(fit(anything(), 0), op(api.OJump), op(api.OPeek)) {
		for a := -1; a <= 7; a++ {
			in.A = a
			e := api.OK
			if a < 0 || a > 5 {
				e = api.ErrCodeJump
			}
			wantIns(t, "an instruction", in, e)
		}
		for _, a := range append([]int{8, 64, 3999, 4000, 4001}, far...) {
			in.A = a
			wantIns(t, "an instruction", in, api.ErrCodeJump)
		}
		for _, n := range []int{2, 3999, 4000} {
			for _, a := range []int{-1, 0, n - 1, n} {
				in.A = a
				f := fun(op(api.OJump), in, ones(n-2))
				e, at := api.OK, 0
				if a < 0 || a >= n {
					e, at = api.ErrCodeJump, 1
				}
				wantOne(t, "an instruction", f, at, e)
			}
		}
	}
}

func TestP18_1Functions(t *testing.T) {
	arities := []int{3, 0, 8}
	for _, kind := range []int{api.OCall, api.OTail} {
		for a := -2; a <= 5; a++ {
			for b := -2; b <= 10; b++ {
				e := api.ErrCodeJump
				if 0 <= a && a <= 2 && b == arities[a] {
					e = api.OK
				}
				wantIns(t, "a function", op(kind, a, b), e)
			}
		}
		for _, n := range far {
			wantIns(t, "a function", op(kind, n), api.ErrCodeJump)
			wantIns(t, "its Arity", op(kind, 0, n), api.ErrCodeJump)
			wantIns(t, "both", op(kind, n, n), api.ErrCodeJump)
		}
		for _, n := range []int{1, 2, 63, 64} {
			for a := -1; a <= n; a++ {
				l := numbered(n)
				l[0].Ins = row(op(api.OJump), op(kind, a, max(a, 0)%9))
				e, at := api.OK, 0
				if a < 0 || a >= n {
					e, at = api.ErrCodeJump, 1
				}
				wantCheck(t, "a function", l, 0, at, e)
				if e == api.OK {
					l[0].Ins[1].B++
					wantCheck(t, "one more than its Arity", l, 0, 1, api.ErrCodeJump)
					l[0].Ins[1].B -= 2
					wantCheck(t, "one less than its Arity", l, 0, 1, api.ErrCodeJump)
				}
			}
		}
	}
}

func TestP18_1FieldsThatAreNotNamed(t *testing.T) {
	for _, in := range plain() {
		fields, _, _ := line(in)
		for _, n := range append([]int{1, 2, -1, 3, 26, 256}, far...) {
			if fields["A"] == "" {
				set := in
				set.A = n
				wantIns(t, "A is not named", set, api.ErrCodeIns)
			}
			if fields["B"] == "" {
				set := in
				set.B = n
				wantIns(t, "B is not named", set, api.ErrCodeIns)
			}
		}
		if fields["T"] != "" {
			continue
		}
		for _, x := range setTerms() {
			set := in
			set.T = x
			wantIns(t, "T is not named", set, api.ErrCodeIns)
		}
		for _, x := range unsetTerms() {
			set := in
			set.T = x
			wantIns(t, "T is zero", set, api.OK)
		}
	}
}

// setTerms: terms that are not zero, each of them by one field; and right ones.
func setTerms() []api.Term {
	out := []api.Term{
		{N: 1}, {N: -1}, {N: math.MinInt64}, {Z: 1}, {Z: complex(0, 1)}, {Z: complex(0, -1)}, {Z: complex(math.NaN(), 0)}, {Z: complex(0, math.NaN())}, {Z: complex(math.Inf(1), 0)}, {Z: complex(math.Copysign(0, -1), math.SmallestNonzeroFloat64)},
		{S: "a"}, {S: " "}, {S: "\x00"}, {S: "V0"}, {Id: api.Id{Node: 1}}, {Id: api.Id{Node: -1}}, {Id: api.Id{Boot: 1}}, {Id: api.Id{N: 1}}, {Id: api.Id{N: 1 << 63}},
		{B: []byte{0}}, {B: make([]byte, 5000)}, {L: []api.Term{{}}}, {L: make([]api.Term, 300)}, {L: []api.Term{term.Int(1)}},
		term.Int(0), term.Int(1), term.Atom("a"), variable("V0"), anything(), term.Tuple(), term.List(), term.Bytes(nil),
	}
	for _, kind := range append([]int{-1, 11, 12}, far...) {
		out = append(out, api.Term{Kind: kind})
	}
	for kind := 1; kind <= 10; kind++ {
		out = append(out, api.Term{Kind: kind})
	}
	return out
}

// unsetTerms: zero, by lists that are empty, and by a Z that is equal to 0.
func unsetTerms() []api.Term {
	minus := math.Copysign(0, -1)
	return []api.Term{{}, {B: []byte{}}, {L: []api.Term{}}, {B: make([]byte, 0, 9), L: make([]api.Term, 0, 9)}, {Z: complex(minus, 0)}, {Z: complex(minus, minus)}}
}
