package atom_test

import (
	"math/rand"
	"slices"
	"strconv"
	"strings"
	"testing"

	"rookery/api"
	"rookery/atom"
)

// noNames: texts that are no atoms' names.
func noNames() []string {
	return []string{
		"", "A", "Z", "B", "_", "_a", "0", "9a", "0a", " ", " a", "a ", "a b", "a-b", "a.", "a\n", "\x00", "a\x00",
		"`", "{", "a`", "a{", "a@", "a[", "a/", "a:", "a^", "é", "aé", "ａ", "a\xff", "\xff", "\xe9",
		strings.Repeat("a", 33), strings.Repeat("a", 64), strings.Repeat("a", 70000), "A" + strings.Repeat("a", 31),
		strings.Repeat("a", 31) + "-", strings.Repeat("a", 31) + "é",
	}
}

// names: atoms' names, no two alike.
func names() []string {
	return []string{
		"a", "b", "z", "aa", "ab", "aA", "aZ", "a0", "a9", "a_", "a__", "az", "zZ9_", "ok", "true", "noconnection",
		strings.Repeat("a", 31), strings.Repeat("a", 32), strings.Repeat("z", 32), "a" + strings.Repeat("_", 31), "a" + strings.Repeat("Z", 30) + "9",
	}
}

// numbered: as many names as one likes, no two alike, none of them in names.
func numbered(n int) []string {
	out := make([]string, n)
	for i := range out {
		out[i] = "n" + strconv.Itoa(i)
	}
	return out
}

// filled: a table with these names, which are put in order.
func filled(t *testing.T, l []string) *atom.Table {
	t.Helper()
	x := atom.New()
	for i, s := range l {
		wantPut(t, x, s, i, api.OK)
	}
	return x
}

func wantPut(t *testing.T, x *atom.Table, s string, want int, wantErr api.Errno) {
	t.Helper()
	if n, e := x.Put(s); n != want || e != wantErr {
		t.Errorf("P3.2: Put(%q): %d, %d; want %d, %d", s, n, e, want, wantErr)
	}
}

func wantFind(t *testing.T, x *atom.Table, s string, want int, wantOk bool) {
	t.Helper()
	if n, ok := x.Find(s); n != want || ok != wantOk {
		t.Errorf("P3.2: Find(%q): %d, %v; want %d, %v", s, n, ok, want, wantOk)
	}
}

func wantName(t *testing.T, x *atom.Table, n int, want string, wantErr api.Errno) {
	t.Helper()
	if s, e := x.Name(n); s != want || e != wantErr {
		t.Errorf("P3.2: Name(%d): %q, %d; want %q, %d", n, s, e, want, wantErr)
	}
}

// wantTold: just these names are told, with the numbers from 0 on.
func wantTold(t *testing.T, all func(func(int, string) bool), want []string) {
	t.Helper()
	var got []string
	for n, s := range all {
		if n != len(got) {
			t.Errorf("P3.2: All tells the number %d at place %d", n, len(got))
		}
		got = append(got, s)
	}
	if !slices.Equal(got, want) {
		t.Errorf("P3.2: All tells %q; want %q", got, want)
	}
}

// wantTable asks x everything that can be asked: the names are just these.
func wantTable(t *testing.T, x *atom.Table, want []string) {
	t.Helper()
	if x.Len() != len(want) {
		t.Errorf("P3.2: Len: %d; want %d", x.Len(), len(want))
	}
	for i, s := range want {
		wantFind(t, x, s, i, true)
		wantName(t, x, i, s, api.OK)
	}
	wantName(t, x, -1, "", api.ErrAtomNone)
	wantName(t, x, len(want), "", api.ErrAtomNone)
	wantTold(t, x.All(), want)
}

// model: what a table must be, worked out by going through a list.
type model struct{ names []string }

func (m *model) put(s string) (int, api.Errno) {
	if !isName(s) {
		return 0, api.ErrAtomName
	}
	if n := slices.Index(m.names, s); n >= 0 {
		return n, api.OK
	}
	if len(m.names) == 4096 {
		return 0, api.ErrAtomFull
	}
	m.names = append(m.names, s)
	return len(m.names) - 1, api.OK
}

// isName says chapter 2's words once more, by lists of bytes.
func isName(s string) bool {
	const small = "abcdefghijklmnopqrstuvwxyz"
	const others = small + "ABCDEFGHIJKLMNOPQRSTUVWXYZ" + "0123456789" + "_"
	if len(s) == 0 || len(s) > 32 || strings.IndexByte(small, s[0]) < 0 {
		return false
	}
	for _, c := range []byte(s) {
		if strings.IndexByte(others, c) < 0 {
			return false
		}
	}
	return true
}

// anyText: a text out of few bytes, often a name; r is the same in each run.
func anyText(r *rand.Rand) string {
	const bytes = "aabbzZ09_"
	b := make([]byte, r.Intn(3))
	for i := range b {
		b[i] = bytes[r.Intn(len(bytes))]
	}
	return string(b)
}
