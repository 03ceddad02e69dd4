package text_test

import (
	"slices"
	"strings"
	"testing"

	"rookery/api"
	"rookery/text"
)

// Where several of the five could be told, the first in the order of reading.
func TestP4_2TheFirst(t *testing.T) {
	over, long, noCx := "4611686018427387904", strings.Repeat("n", 33), "#c80000000000000000000000000000000"
	great := `"` + strings.Repeat("b", 4096) + `"`
	deep := strings.Repeat("[", 24)
	wide := "[" + row(255, "1")
	wantRefusals(t, "1 and 2: the part's beginning, then its bytes", []refusal{
		{deep + "?", 24, api.ErrTermDeep}, {deep, 24, api.ErrTermDeep}, {deep + "-0", 24, api.ErrTermDeep}, {"[" + deep[2:] + "?", 23, api.ErrTextForm},
	})
	wantRefusals(t, "1 and 1: the depth, then the size", []refusal{
		{"[" + textOfParts(4072)[1:len(textOfParts(4072))-1] + "," + deep[1:] + "1", len(textOfParts(4072)) + 23, api.ErrTermDeep},
		{"[" + textOfParts(4073)[1:len(textOfParts(4073))-1] + "," + deep[1:] + "1", len(textOfParts(4073)) + 23, api.ErrTermDeep},
		{"[" + textOfParts(4074)[1:len(textOfParts(4074))-1] + "," + deep[1:] + "1", len(textOfParts(4074)) + 22, api.ErrTermSize},
	})
	wantRefusals(t, "3 and 2: a part's value, then what stands behind it", []refusal{
		{"[" + over + "?", 1, api.ErrTextForm}, {"[" + over, 1, api.ErrTextForm}, {"{1," + long + " }", 3, api.ErrTextForm}, {"{1," + long, 3, api.ErrTextForm}, {"{" + noCx + "0}", 1, api.ErrTextForm}, {"{" + noCx, 1, api.ErrTextForm},
		{"[#p65.1.1", 1, api.ErrTextForm}, {"[#p65.1.1.", 1, api.ErrTextForm}, {"[#p1.1.01]", 1, api.ErrTextForm}, {"[" + great, 1, api.ErrTermSize}, {"[" + great + "?", 1, api.ErrTermSize},
	})
	wantRefusals(t, "2 and 3: a byte within a part, then its value", []refusal{
		{"[" + over + "00]", 21, api.ErrTextForm}, {"#p0.1.x", 6, api.ErrTextForm}, {noCx[:33] + "x", 33, api.ErrTextForm}, {great[:4097], 4097, api.ErrTextForm}, {great[:4097] + "\t\"", 4097, api.ErrTextForm},
	})
	wantRefusals(t, "3 and 4: an element's value, then the comma behind it", []refusal{
		{wide + "," + over + ",1]", len(wide) + 1, api.ErrTextForm}, {wide + "," + long + ",1]", len(wide) + 1, api.ErrTextForm}, {wide + "," + great + ",1]", len(wide) + 1, api.ErrTermSize}, {wide + ",1,?", len(wide) + 2, api.ErrTermWide},
	})
	wantRefusals(t, "3 and 5: the term's value, then what stands behind it", []refusal{
		{over + " ", 0, api.ErrTextForm}, {long + " ", 0, api.ErrTextForm}, {noCx + "0", 0, api.ErrTextForm}, {"#p65.1.1 ", 0, api.ErrTextForm}, {"#p1.1.01", 0, api.ErrTextForm}, {great + " ", 0, api.ErrTermSize},
	})
	wantRefusals(t, "the one that stands ahead", []refusal{
		{"[?," + deep, 1, api.ErrTextForm}, {"[" + over + "," + deep, 1, api.ErrTextForm}, {"[" + deep + "," + over, 24, api.ErrTermDeep}, {"[" + wide + ",1,1]," + over + "]", len(wide) + 3, api.ErrTermWide}, {"[" + over + "," + wide + ",1,1]]", 1, api.ErrTextForm},
		{"1 " + over, 1, api.ErrTextMore}, {"{" + great + "," + deep, 1, api.ErrTermSize}, {"[1]?" + deep, 3, api.ErrTextMore},
	})
}

func wantAsked(t *testing.T, s string) api.Errno {
	t.Helper()
	x, at, e := asked(s)
	if e == api.OK {
		wantParse(t, "worked out apart", s, x)
	} else {
		wantRefused(t, "worked out apart", s, at, e)
	}
	return e
}

// Each byte at each place of a text, in place of what stands there, and ahead of it.
func TestP4_2EveryByteEverywhere(t *testing.T) {
	for _, c := range samples() {
		s := "{" + c.s + ",[-1]}"
		for i := range len(s) {
			for b := range 256 {
				x := string([]byte{byte(b)})
				wantAsked(t, s[:i]+x+s[i+1:])
				wantAsked(t, s[:i]+x+s[i:])
			}
		}
	}
}

func TestP4_2Made(t *testing.T) {
	m := newMaker(42)
	seen := map[api.Errno]int{}
	for range 30000 {
		s, _ := text.Print(m.right(5))
		for range m.Intn(4) {
			s = m.spoil(s)
		}
		seen[wantAsked(t, s)]++
	}
	for range 5000 {
		var l []string
		for range 1 + m.Intn(6) {
			l = append(l, m.piece())
		}
		seen[wantAsked(t, "["+strings.Join(l, ",")+"]")]++
		seen[wantAsked(t, strings.Join(l, ""))]++
	}
	for _, e := range []api.Errno{api.OK, api.ErrTermDeep, api.ErrTermSize, api.ErrTermWide, api.ErrTextForm, api.ErrTextMore} {
		if seen[e] < 100 {
			t.Errorf("P4.2: only %d texts were made that ask for %d", seen[e], e)
		}
	}
}

// Every text of few bytes out of those that texts are made of.
func TestP4_2AllShort(t *testing.T) {
	for _, signs := range []string{"{}[],a01-", `"\x7f4 a`, "#rp.01,[]", "a1-, []\""} {
		all := []string{""}
		for range 6 {
			var longer []string
			for _, s := range all {
				for _, c := range []byte(signs) {
					longer = append(longer, s+string([]byte{c}))
				}
			}
			for _, s := range longer {
				wantAsked(t, s)
				if signs[0] == '#' {
					wantAsked(t, "#p1"+s)
				}
			}
			all = slices.DeleteFunc(longer, func(s string) bool {
				// What goes on behind a byte that can't stand there is refused for that byte.
				_, at, e := asked(s)
				return e != api.OK && at < len(s)-1
			})
		}
	}
}
