package atom_test

import (
	"slices"
	"testing"

	"rookery/api"
	"rookery/atom"
)

// first: what is told until that many names were.
func first(all func(func(int, string) bool), many int) []string {
	var out []string
	for _, s := range all {
		if len(out) == many {
			break
		}
		out = append(out, s)
	}
	return out
}

func TestR7LeftAnywhere(t *testing.T) {
	l := names()
	x := filled(t, l)
	all := x.All()
	for many := range len(l) + 2 {
		want := l[:min(many, len(l))]
		if got := first(all, many); !slices.Equal(got, want) {
			t.Errorf("R7: left behind %d names: %q; want %q", many, got, want)
		}
	}
	wantTold(t, all, l)
	wantTold(t, all, l)
	wantTold(t, x.All(), l)
}

// An iterator that is told to stop asks no more.
func TestR7NothingBehindTheEnd(t *testing.T) {
	calls := 0
	filled(t, names()).All()(func(int, string) bool {
		calls++
		return calls < 3
	})
	if calls != 3 {
		t.Errorf("R7: %d names told, though the third was the last that was asked for", calls)
	}
}

func TestR7WithinItself(t *testing.T) {
	l := []string{"a", "b", "c"}
	all := filled(t, l).All()
	var got []string
	for _, s := range all {
		for _, u := range all {
			got = append(got, s+u)
		}
	}
	if want := []string{"aa", "ab", "ac", "ba", "bb", "bc", "ca", "cb", "cc"}; !slices.Equal(got, want) {
		t.Errorf("R7: %q; want %q", got, want)
	}
}

func TestR7NoNames(t *testing.T) {
	for _, x := range []*atom.Table{nil, atom.New()} {
		all := x.All()
		if all == nil {
			t.Fatal("R7: All is nil")
		}
		wantTold(t, all, nil)
		wantTold(t, all, nil)
	}
}

// What is put in while it goes on is not told, not when it is begun again
// either: what counts is when it was asked for.
func TestP3_2AllWhilePut(t *testing.T) {
	for n := range 40 {
		l := numbered(n)
		x := filled(t, l)
		all, want := x.All(), slices.Clone(l)
		told := 0
		for i, s := range all {
			if i != told || s != l[i] {
				t.Errorf("P3.2: All tells %d, %q at place %d of %q", i, s, told, l)
			}
			told++
			added := "p" + s
			wantPut(t, x, added, n+i, api.OK)
			want = append(want, added)
		}
		if told != n {
			t.Errorf("P3.2: All tells %d names; %d were there", told, n)
		}
		wantTold(t, all, l)
		wantTable(t, x, want)
	}
}

func TestP3_2AllAheadOfPut(t *testing.T) {
	x := atom.New()
	none := x.All()
	x.Put("a")
	one := x.All()
	x.Put("b")
	two := x.All()
	for _, s := range numbered(100) {
		x.Put(s)
	}
	for range 2 {
		wantTold(t, none, nil)
		wantTold(t, one, []string{"a"})
		wantTold(t, two, []string{"a", "b"})
	}
	wantTold(t, x.All(), append([]string{"a", "b"}, numbered(100)...))
}

// A table may be asked, and copied, while its names are told.
func TestP3_2AllWhileAsked(t *testing.T) {
	l := names()
	x := filled(t, l)
	for i, s := range x.All() {
		wantTable(t, x, l)
		wantPut(t, x, s, i, api.OK)
		c := x.Copy()
		c.Put("other")
		wantTable(t, c, append(slices.Clone(l), "other"))
	}
	wantTable(t, x, l)
}
