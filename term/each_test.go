package term_test

import (
	"fmt"
	"iter"
	"slices"
	"testing"

	"rookery/api"
	"rookery/term"
)

func wantEach(t *testing.T, what string, got iter.Seq[api.Term], asked []api.Term) {
	t.Helper()
	if parts := slices.Collect(got); !slices.EqualFunc(parts, asked, equal) {
		t.Errorf("P2.3: %s: Each: %d parts that are not the %d asked for", what, len(parts), len(asked))
	}
}

func TestP2_3Each(t *testing.T) {
	one, two, three := term.Int(1), term.Int(2), term.Int(3)
	inner := raw(api.KList, two)
	wantEach(t, "{1,[2],3}", term.Each(raw(api.KTuple, one, inner, three)), []api.Term{raw(api.KTuple, one, inner, three), one, inner, two, three})
	wantEach(t, "1", term.Each(one), []api.Term{one})
	wantEach(t, "[]", term.Each(raw(api.KList)), []api.Term{raw(api.KList)})
	wantEach(t, "the zero Term", term.Each(api.Term{}), []api.Term{{}})
	wantEach(t, "an int with elements", term.Each(api.Term{Kind: api.KInt, L: []api.Term{two, {}}}), []api.Term{{Kind: api.KInt, L: []api.Term{two, {}}}, two, {}})
}

func TestP2_3EachMade(t *testing.T) {
	m := newMaker(23)
	for i := range 5000 {
		x := m.wrong()
		parts, _ := partsOf(x, 1)
		wantEach(t, fmt.Sprint("made term ", i), term.Each(x), parts)
	}
}

func TestP2_3EachOfMany(t *testing.T) {
	for _, n := range []int{4094, 4095, 4096, 4097, 9000} {
		l := make([]api.Term, n)
		for i := range l {
			l[i] = term.Int(int64(i))
		}
		x := raw(api.KList, l...)
		wantEach(t, fmt.Sprint("elements: ", n), term.Each(x), append([]api.Term{x}, l[:min(n, 4095)]...))
	}
	wantEach(t, "bytes are no parts", term.Each(term.Bytes(make([]byte, 9000))), []api.Term{term.Bytes(make([]byte, 9000))})
	for what, x := range map[string]api.Term{"2^13 - 1 parts": doubled(12), "2^65 - 1 parts": doubled(64), "no end": endless(), "2^16 deep": nested(1<<16-1, term.Int(1))} {
		n := 0
		for p := range term.Each(x) {
			if n++; p.Kind == 0 {
				t.Fatalf("P2.3: %s: a part that is none", what)
			}
		}
		if n != api.MaxSize {
			t.Errorf("P2.3: %s: Each: %d parts", what, n)
		}
	}
}

// R7: left anywhere, it ends there, and begins anew the next time.
func TestR7EachLeftAndBegunAgain(t *testing.T) {
	x := raw(api.KTuple, term.Int(1), raw(api.KList, term.Int(2), raw(api.KTuple, term.Int(3))), term.Bytes([]byte("b")), term.Int(4))
	parts, _ := partsOf(x, 1)
	for _, deep := range []api.Term{x, doubled(14)} {
		seq := term.Each(deep)
		for stop := 1; stop <= len(parts); stop++ {
			n := 0
			seq(func(p api.Term) bool {
				n++
				return n < stop
			})
			if n != stop {
				t.Errorf("R7: Each went on behind part %d to %d", stop, n)
			}
		}
	}
	seq := term.Each(x)
	for range 3 {
		wantEach(t, "R7: begun again", seq, parts)
	}
	for a := range seq {
		inside := slices.Collect(seq)
		if !slices.EqualFunc(inside, parts, equal) {
			t.Errorf("R7: ranged over within itself at %v: %d parts", a, len(inside))
		}
	}
	if term.Each(api.Term{}) == nil {
		t.Error("R7: a nil iterator")
	}
}
