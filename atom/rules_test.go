package atom_test

import (
	"math"
	"slices"
	"strings"
	"testing"
	"unsafe"

	"rookery/api"
	"rookery/atom"
)

// A nil table comes ahead of a wrong argument, a text that is no name ahead of
// a full table, and a name that is there ahead of that, too.
func TestR1First(t *testing.T) {
	var none *atom.Table
	full := filled(t, numbered(4096))
	for _, s := range noNames() {
		wantPut(t, none, s, 0, api.ErrNil)
		wantPut(t, full, s, 0, api.ErrAtomName)
	}
	wantPut(t, full, "n0", 0, api.OK)
	wantPut(t, full, "n4096", 0, api.ErrAtomFull)
	wantName(t, none, -1, "", api.ErrNil)
}

// What was refused leaves nothing behind: the next name has the next number.
func TestR2NothingChanged(t *testing.T) {
	x := atom.New()
	for i, s := range numbered(200) {
		for _, bad := range noNames() {
			wantPut(t, x, bad, 0, api.ErrAtomName)
		}
		wantName(t, x, i, "", api.ErrAtomNone)
		wantFind(t, x, s, 0, false)
		wantPut(t, x, s, i, api.OK)
	}
	wantTable(t, x, numbered(200))
}

// A name that is a piece of a long text is kept without that text.
func TestR4NotKept(t *testing.T) {
	text := strings.Repeat("some_name,", 1000)
	s := text[:9]
	x := atom.New()
	wantPut(t, x, s, 0, api.OK)
	name, _ := x.Name(0)
	if unsafe.StringData(name) == unsafe.StringData(s) {
		t.Error("R4: Put keeps the text that was handed in")
	}
	for _, told := range x.All() {
		if unsafe.StringData(told) == unsafe.StringData(s) {
			t.Error("R4: All tells the text that was handed in")
		}
	}
}

// The same words to two tables, one of which stands among others that are told
// other things: the same answers.
func TestR6NothingElse(t *testing.T) {
	alone, among := atom.New(), atom.New()
	others := []*atom.Table{atom.New(), atom.New()}
	var a, b []int
	for i, s := range slices.Concat(names(), noNames(), numbered(50), names()) {
		n, e := alone.Put(s)
		a = append(a, n, int(e))
		others[i%2].Put("o" + s)
		n, e = among.Put(s)
		others[(i+1)%2].Put(s)
		b = append(b, n, int(e))
	}
	if !slices.Equal(a, b) {
		t.Errorf("R6: %v, and among other tables %v", a, b)
	}
	want := append(names(), numbered(50)...)
	wantTable(t, alone, want)
	for range 20 {
		wantTable(t, among, want)
		wantTable(t, among.Copy(), want)
	}
}

// Every call, at all kinds of tables and arguments.
func TestP1NoPanic(t *testing.T) {
	texts := append(append(names(), noNames()...), strings.Repeat("\x00", 1<<20))
	numbers := []int{math.MinInt, math.MinInt32, -4096, -1, 0, 1, 20, 21, 4095, 4096, math.MaxInt32, math.MaxInt}
	for _, x := range []*atom.Table{nil, atom.New(), filled(t, names()), filled(t, numbered(4096)), filled(t, names()).Copy()} {
		for _, s := range texts {
			atom.Right(s)
			x.Find(s)
			x.Put(s)
			x.Copy().Put(s)
		}
		for _, n := range numbers {
			x.Name(n)
		}
		for range x.All() {
			x.Len()
		}
	}
}
