package atom_test

import (
	"math"
	"slices"
	"strings"
	"testing"

	"rookery/api"
	"rookery/atom"
)

func TestExamples(t *testing.T) {
	x := atom.New()
	wantPut(t, x, "a", 0, api.OK)
	wantPut(t, x, "b", 1, api.OK)
	wantPut(t, x, "a", 0, api.OK)
	wantPut(t, x, "B", 0, api.ErrAtomName)
	wantName(t, x, 2, "", api.ErrAtomNone)
	wantTable(t, x, []string{"a", "b"})
}

func TestP3_2PutInOrder(t *testing.T) {
	x := filled(t, names())
	wantTable(t, x, names())
	y := atom.New()
	back := names()
	slices.Reverse(back)
	for i, s := range back {
		wantPut(t, y, s, i, api.OK)
		wantTable(t, y, back[:i+1])
	}
}

// A name that is there, whether it came first, last or between.
func TestP3_2PutAgain(t *testing.T) {
	x := atom.New()
	for i, s := range names() {
		wantPut(t, x, s, i, api.OK)
		for j, s := range names()[:i+1] {
			wantPut(t, x, s, j, api.OK)
		}
		wantTable(t, x, names()[:i+1])
	}
}

func TestP3_2PutNoName(t *testing.T) {
	x := atom.New()
	for _, s := range noNames() {
		wantPut(t, x, s, 0, api.ErrAtomName)
		wantTable(t, x, nil)
	}
	x = filled(t, names())
	for _, s := range noNames() {
		wantPut(t, x, s, 0, api.ErrAtomName)
		wantFind(t, x, s, 0, false)
	}
	wantTable(t, x, names())
	wantPut(t, x, "next", len(names()), api.OK)
}

func TestP3_2Full(t *testing.T) {
	l := numbered(4096)
	x := filled(t, l)
	wantTable(t, x, l)
	for range 2 {
		wantPut(t, x, "more", 0, api.ErrAtomFull)
		wantFind(t, x, "more", 0, false)
		wantName(t, x, 4096, "", api.ErrAtomNone)
		for _, n := range []int{0, 1, 2047, 4094, 4095} {
			wantPut(t, x, l[n], n, api.OK)
		}
		for _, s := range noNames() {
			wantPut(t, x, s, 0, api.ErrAtomName)
		}
	}
	wantTable(t, x, l)
	c := x.Copy()
	wantTable(t, c, l)
	wantPut(t, c, "more", 0, api.ErrAtomFull)
	wantPut(t, c, l[9], 9, api.OK)
}

func TestP3_2LastPlace(t *testing.T) {
	l := numbered(4095)
	x := filled(t, l)
	c := x.Copy()
	wantPut(t, x, "last", 4095, api.OK)
	wantPut(t, x, "more", 0, api.ErrAtomFull)
	wantPut(t, x, "last", 4095, api.OK)
	wantTable(t, x, append(slices.Clone(l), "last"))
	wantPut(t, c, "more", 4095, api.OK)
	wantPut(t, c, "last", 0, api.ErrAtomFull)
	wantTable(t, c, append(slices.Clone(l), "more"))
}

func TestP3_2Find(t *testing.T) {
	x := filled(t, []string{"ab", "abc", "b"})
	wantFind(t, x, "ab", 0, true)
	wantFind(t, x, "abc", 1, true)
	wantFind(t, x, "b", 2, true)
	for _, s := range []string{"a", "abcd", "aB", "c", "bc", "", "AB", "ab\x00", " ab", strings.Repeat("ab", 40000)} {
		wantFind(t, x, s, 0, false)
	}
	wantTable(t, x, []string{"ab", "abc", "b"})
}

func TestP3_2Name(t *testing.T) {
	x := filled(t, []string{"a", "b", "c"})
	wantName(t, x, 0, "a", api.OK)
	wantName(t, x, 1, "b", api.OK)
	wantName(t, x, 2, "c", api.OK)
	for _, n := range []int{3, 4, 4095, 4096, -1, -2, -3, -4, math.MaxInt, math.MinInt, 1 << 32, 1<<32 + 1, -1 << 32} {
		wantName(t, x, n, "", api.ErrAtomNone)
		wantName(t, atom.New(), n, "", api.ErrAtomNone)
	}
	wantName(t, atom.New(), 0, "", api.ErrAtomNone)
}

func TestP3_2CopyIsItsOwn(t *testing.T) {
	// All lengths, so that some lists have spare room and others have none.
	for n := range 40 {
		l := numbered(n)
		x := filled(t, l)
		c, d := x.Copy(), x.Copy()
		e := c.Copy()
		wantPut(t, c, "c", n, api.OK)
		wantPut(t, x, "x", n, api.OK)
		wantPut(t, d, "d", n, api.OK)
		wantPut(t, c, "x", n+1, api.OK)
		wantPut(t, x, "y", n+1, api.OK)
		wantTable(t, x, append(slices.Clone(l), "x", "y"))
		wantTable(t, c, append(slices.Clone(l), "c", "x"))
		wantTable(t, d, append(slices.Clone(l), "d"))
		wantTable(t, e, l)
		for _, y := range []*atom.Table{d, e} {
			wantFind(t, y, "x", 0, false)
			wantFind(t, y, "y", 0, false)
			wantFind(t, y, "c", 0, false)
		}
		wantFind(t, x, "c", 0, false)
		wantFind(t, c, "y", 0, false)
	}
}

func TestP3_2NilTable(t *testing.T) {
	var x *atom.Table
	for _, s := range append(names(), noNames()...) {
		wantPut(t, x, s, 0, api.ErrNil)
		wantFind(t, x, s, 0, false)
	}
	for _, n := range []int{0, 1, -1, 4096, math.MaxInt, math.MinInt} {
		wantName(t, x, n, "", api.ErrNil)
	}
	if x.Len() != 0 {
		t.Errorf("P3.2: Len of a nil table: %d", x.Len())
	}
	if x.All() == nil {
		t.Fatal("R7: All of a nil table is nil")
	}
	wantTold(t, x.All(), nil)
	if x.Copy() != nil {
		t.Error("P3.2: Copy of a nil table isn't nil")
	}
}
