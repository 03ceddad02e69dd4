package code_test

import (
	"strconv"
	"strings"
	"testing"

	"rookery/code"
)

func wantSlot(t testing.TB, name string, n int, bound, ok bool) {
	t.Helper()
	if a, b, c := code.Slot(name); a != n || b != bound || c != ok {
		t.Errorf("P18.2: Slot(%q): %d, %v, %v; want %d, %v, %v", brief(name), a, b, c, n, bound, ok)
	}
}

func TestP18_2Slots(t *testing.T) {
	for n := range 72 {
		wantSlot(t, "V"+strconv.Itoa(n), n, false, true)
		wantSlot(t, "B"+strconv.Itoa(n), n, true, true)
	}
	for n := 72; n < 12000; n++ {
		wantSlot(t, "V"+strconv.Itoa(n), 0, false, false)
		wantSlot(t, "B"+strconv.Itoa(n), 0, false, false)
	}
}

func TestP18_2NoSlots(t *testing.T) {
	for _, head := range []string{"V", "B"} {
		for _, s := range []string{"", "00", "01", "07", "010", "071", "000", "-1", "-0", "+1", "+0", " 1", "1 ", " ", "1.", "1.0", "1e1", "0x1", "1_0", "_1", "a", "1a", "a1", "1\x00", "\x001", "1\n", "٣", "１", "/", ":", "1/", "1:", "V1", "B1", "18446744073709551616", "18446744073709551617", "4294967296", "4294967297", "256", "257", "100", "72", "99"} {
			wantSlot(t, head+s, 0, false, false)
		}
		for _, n := range []int{3, 19, 20, 21, 40, 1 << 20} {
			wantSlot(t, head+strings.Repeat("1", n), 0, false, false)
			wantSlot(t, head+strings.Repeat("0", n), 0, false, false)
			wantSlot(t, head+"1"+strings.Repeat("0", n), 0, false, false)
			wantSlot(t, head+strings.Repeat("0", n)+"1", 0, false, false)
		}
	}
	for _, s := range []string{"", "v1", "b1", "v0", "W1", "A1", "C1", "U1", "X1", "_", "_1", "1", "71", "0", " V1", "\x00V1", "VV1", "VB1", "BV1", "1V", "ѵ1", "Ⅴ1", "\xd61", "v", "b", "V1 V2", "B0V1"} {
		wantSlot(t, s, 0, false, false)
	}
}

// All texts of up to three bytes that a name may have.
func TestP18_2ShortTexts(t *testing.T) {
	const signs = "VBWvb01279 -_/:"
	var l []string
	for _, a := range signs {
		l = append(l, string(a))
		for _, b := range signs {
			l = append(l, string(a)+string(b))
			for _, c := range signs {
				l = append(l, string(a)+string(b)+string(c))
			}
		}
	}
	for _, s := range l {
		if n := slotNumber(s); n < 0 {
			wantSlot(t, s, 0, false, false)
		} else {
			wantSlot(t, s, n, s[0] == 'B', true)
		}
	}
}

func FuzzP18_2Slot(f *testing.F) {
	for _, s := range []string{"V0", "B71", "V72", "V01", "", "B"} {
		f.Add(s)
	}
	f.Fuzz(func(t *testing.T, s string) {
		n := slotNumber(s)
		wantSlot(t, s, max(n, 0), n >= 0 && s[0] == 'B', n >= 0)
	})
}
