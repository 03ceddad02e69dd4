package code_test

import (
	"math"
	"strconv"
	"strings"
	"testing"

	"rookery/api"
	"rookery/term"
)

// rightTerms: of each kind, up to the limits of layer 2.
func rightTerms() []api.Term {
	id := api.Id{Node: 64, Boot: 1, N: 1}
	deep := term.Int(1)
	for range 23 {
		deep = term.List(deep)
	}
	return []api.Term{
		term.Int(0), term.Int(api.MinInt), term.Int(api.MaxInt), {Kind: api.KCx}, {Kind: api.KCx, Z: complex(-1.5, math.MaxFloat64)},
		term.Atom("a"), term.Atom(strings.Repeat("a", 32)), term.Atom("case"), term.Ref(id), term.Pid(id), term.Pid(api.Id{Node: 1, Boot: math.MaxUint32, N: math.MaxUint64}),
		term.Tuple(), term.List(), term.Tuple(term.Int(1), term.List(term.Atom("b"))), wide(256), deep, term.Bytes(nil), term.Bytes([]byte{0, 255}), term.Bytes(make([]byte, 4095)),
		{Kind: api.KInt, B: []byte{}, L: []api.Term{}},
	}
}

func wide(n int) api.Term {
	l := make([]api.Term, n)
	for i := range l {
		l[i] = term.Int(int64(i))
	}
	return term.Tuple(l...)
}

// wrongTerms: neither terms nor patterns.
func wrongTerms() []api.Term {
	deep := term.Int(1)
	for range 24 {
		deep = term.List(deep)
	}
	return []api.Term{
		{}, {Kind: -1}, {Kind: 11}, {Kind: math.MaxInt}, term.Int(api.MaxInt + 1), term.Int(api.MinInt - 1), {Kind: api.KCx, Z: complex(math.NaN(), 0)}, {Kind: api.KCx, Z: complex(math.Copysign(0, -1), 0)},
		term.Atom(""), term.Atom("A"), term.Atom(strings.Repeat("a", 33)), term.Pid(api.Id{}), term.Ref(api.Id{Node: 65, Boot: 1, N: 1}),
		wide(257), deep, term.Bytes(make([]byte, 4096)), {Kind: api.KInt, S: "a"}, {Kind: api.KAtom, S: "a", N: 1}, {Kind: api.KTuple, B: []byte{1}},
		{Kind: api.KVar}, variable("_"), variable("v0"), variable("a"), {Kind: api.KVar, S: "V0", N: 1}, {Kind: api.KVar, S: "V0", L: []api.Term{term.Int(1)}}, {Kind: api.KAny, S: "_"}, {Kind: api.KAny, N: 1},
	}
}

// nested: x by itself, and as a part of terms.
func nested(x api.Term) []api.Term {
	return []api.Term{x, term.Tuple(x), term.List(term.Int(1), x), term.Tuple(term.Int(1), term.List(term.Atom("a"), term.Tuple(x)))}
}

func TestP18_1TermsOfPush(t *testing.T) {
	for _, x := range rightTerms() {
		wantIns(t, "a right term", push(x), api.OK)
	}
	for _, wrong := range wrongTerms() {
		for _, x := range nested(wrong) {
			wantIns(t, "no right term", push(x), api.ErrCodeIns)
		}
	}
	for _, p := range []api.Term{variable("V0"), variable("B0"), variable("X"), anything()} {
		for _, x := range nested(p) {
			wantIns(t, "a pattern", push(x), api.ErrCodeIns)
		}
	}
	wantOne(t, "as it is done", fun(push(wide(256)), ret()), 0, api.OK)
	wantOne(t, "as it is done", fun(push(wide(257)), ret()), 0, api.ErrCodeIns)
}

func TestP18_1TermsOfMatch(t *testing.T) {
	for _, x := range rightTerms() {
		wantIns(t, "a term is a pattern", fit(x, 0), api.OK)
	}
	for _, x := range append(nested(anything()), term.Tuple(anything(), anything())) {
		wantIns(t, "KAny", fit(x, 0), api.OK)
	}
	for _, wrong := range wrongTerms() {
		for _, x := range nested(wrong) {
			wantIns(t, "no pattern", fit(x, 0), api.ErrCodeIns)
		}
	}
	wantIns(t, "one slot many times", fit(term.Tuple(variable("V0"), variable("B0"), variable("V0"), variable("V4"), anything(), variable("B4")), 0), api.OK)
	wantIns(t, "the last of many is no slot", fit(term.Tuple(variable("V0"), variable("B0"), variable("V0"), variable("V4"), anything(), variable("B5")), 0), api.ErrCodeIns)
	wantIns(t, "the first of many is no slot", fit(term.Tuple(variable("V5"), variable("B0"), variable("V0"), variable("V4"), anything(), variable("B3")), 0), api.ErrCodeIns)
}

func TestP18_1NamesOfMatch(t *testing.T) {
	for _, head := range []string{"V", "B"} {
		for n := range 80 {
			e := api.OK
			if n >= slotsHere {
				e = api.ErrCodeIns
			}
			for _, x := range nested(variable(head + strconv.Itoa(n))) {
				wantIns(t, "a slot's name", fit(x, 0), e)
			}
		}
		for _, s := range []string{"", "00", "01", "04", "-1", "+1", " 1", "1 ", "a", "1a", "_", "0_", "72", "100", "18446744073709551616", "0000000000000000000000000000001"} {
			for _, x := range nested(variable(head + s)) {
				wantIns(t, "no slot's name", fit(x, 0), api.ErrCodeIns)
			}
		}
	}
	for _, s := range []string{"W1", "A0", "X", "_0", "_V0", "VV0", "VB0", "v0", "b0", "0", "", "_"} {
		for _, x := range nested(variable(s)) {
			wantIns(t, "no slot's name", fit(x, 0), api.ErrCodeIns)
		}
	}
}

func TestP18_1SlotsOfMatch(t *testing.T) {
	for slots := range 73 {
		for _, n := range []int{0, 1, slots - 1, slots, slots + 1, 71, 72, 73} {
			for _, head := range []string{"V", "B"} {
				f := api.Fun{Name: "f", Slots: slots, Ins: row(one(), fit(variable(head+strconv.Itoa(n)), 2), ret())}
				e, at := api.ErrCodeIns, 1
				if 0 <= n && n < slots {
					e, at = api.OK, 0
				}
				wantOne(t, "a slot that the function has or not", f, at, e)
			}
		}
	}
	var l []api.Term
	for n := range 72 {
		l = append(l, variable("V"+strconv.Itoa(n)), variable("B"+strconv.Itoa(n)))
	}
	f := api.Fun{Name: "f", Slots: 72, Ins: row(one(), fit(term.List(l...), 2), ret())}
	wantOne(t, "all 72 slots, both ways", f, 0, api.OK)
	f.Slots = 71
	wantOne(t, "one slot less", f, 1, api.ErrCodeIns)
}
