package etf_test

import (
	"strings"
	"testing"

	"rookery/api"
)

// Where several could be told, the first in the order of parts and of reading.
func TestP7_2TheFirst(t *testing.T) {
	noInt, noCx, noId := "\x01"+v(1<<63), "\x02\x80"+strings.Repeat("\x00", 15), "\x05\x41\x01\x01"
	wantRefusals(t, "the mark, then the term", []refusal{
		{"D", api.ErrEtfMark}, {"D\x09", api.ErrEtfMark}, {"\x01\x00", api.ErrEtfMark}, {"E", api.ErrEtfShort},
	})
	deep, size := nestedBytes(24), bytesOfParts(4096, 1)
	wantRefusals(t, "the depth and the size, then the kind's byte", []refusal{
		{deep, api.ErrTermDeep}, {deep + "\x09", api.ErrTermDeep}, {size, api.ErrTermSize}, {size + "\x09", api.ErrTermSize}, {size + noInt, api.ErrTermSize},
	})
	wantRefusals(t, "the depth, then the size", []refusal{
		{bytesOfParts(4072, 1) + nestedBytes(23)[1:] + "\x01\x00", api.ErrTermDeep}, {bytesOfParts(4073, 1) + nestedBytes(23)[1:] + "\x01\x00", api.ErrTermDeep}, {bytesOfParts(4074, 1) + nestedBytes(23)[1:] + "\x01\x00", api.ErrTermSize},
		{bytesOfParts(4073, 1) + nestedBytes(23)[1:], api.ErrTermDeep}, {bytesOfParts(4074, 1) + nestedBytes(22)[1:], api.ErrTermSize}, {bytesOfParts(4073, 1) + nestedBytes(22)[1:], api.ErrEtfShort},
	})
	wantRefusals(t, "what is wrong with a part, then what stands behind it", []refusal{
		{"E" + noInt + "\x00", api.ErrEtfForm}, {"E" + noCx + "\x00", api.ErrEtfForm}, {"E" + noId + "\x00", api.ErrEtfForm}, {"E\x07\x02" + noInt, api.ErrEtfForm}, {"E\x07\x02" + noCx, api.ErrEtfForm}, {"E\x07\x02" + noId, api.ErrEtfForm}, {"E\x07\x02\x03\x00\x01A", api.ErrEtfForm}, {"E\x09\x00\x00", api.ErrEtfForm},
	})
	wantRefusals(t, "a missing byte, then the whole", []refusal{
		{"E" + noCx[:16], api.ErrEtfShort}, {"E" + noId[:3], api.ErrEtfShort}, {"E\x03\x00\x02A", api.ErrEtfShort}, {"E\x07\x02\x03\x00\x02aa\x03\x01\x02a", api.ErrEtfShort}, {"E\x01" + strings.Repeat("\xff", 9), api.ErrEtfShort},
	})
	wantRefusals(t, "how many there are, ahead of looking for them", []refusal{
		{"E\x03\x00\x21", api.ErrEtfForm}, {"E\x03\x00\x00", api.ErrEtfForm}, {"E\x07\x81\x02", api.ErrEtfForm}, {"E\x08\x80\x20", api.ErrTermSize}, {"E\x08\xff\x1f", api.ErrEtfShort}, {"E\x03\x01", api.ErrEtfForm}, {"E\x05\x01" + v(1<<32), api.ErrEtfForm},
		{nestedBytes(23) + "\x07\x81\x02", api.ErrEtfForm}, {bytesOfParts(4095, 1) + "\x07\x81\x02", api.ErrEtfForm},
	})
	wantRefusals(t, "a V's form, then what it tells", []refusal{
		{"E\x08\x80\xa0\x00", api.ErrEtfForm}, {"E\x08" + strings.Repeat("\xff", 9) + "\x02", api.ErrEtfForm}, {"E\x08" + strings.Repeat("\xff", 9) + "\x01", api.ErrTermSize}, {"E\x08" + strings.Repeat("\xff", 9), api.ErrEtfShort},
	})
	wantRefusals(t, "the one that stands ahead", []refusal{
		{"E\x07\x02" + noInt + deep[1:], api.ErrEtfForm}, {"E\x07\x02" + deep[1:] + noInt, api.ErrTermDeep}, {"E\x07\x02\x08\x80\x20" + deep[1:], api.ErrTermSize}, {"E\x07\x02" + deep[1:] + "\x08\x80\x20", api.ErrTermDeep}, {"E\x07\x02\x09\x08\x80\x20", api.ErrEtfForm}, {"E\x07\x02\x08\x80\x20\x09", api.ErrTermSize},
	})
}

func wantAsked(t *testing.T, s string) api.Errno {
	t.Helper()
	x, e := asked(s)
	if e == api.OK {
		wantDecode(t, "worked out apart", s, x)
	} else {
		wantRefused(t, "worked out apart", s, e)
	}
	return e
}

// Each byte at each place, in place of what stands there, and ahead of it.
func TestP7_2EveryByteEverywhere(t *testing.T) {
	for _, c := range samples() {
		s := "E\x06\x03\x03\x00\x01q" + c.s + "\x07\x01\x01\x01"
		if len(c.s) > 100 {
			continue
		}
		for i := range len(s) {
			for b := range 256 {
				x := bytesOf(byte(b))
				wantAsked(t, s[:i]+x+s[i+1:])
				wantAsked(t, s[:i]+x+s[i:])
			}
		}
	}
}

func TestP7_2Made(t *testing.T) {
	m := newMaker(72)
	seen := map[api.Errno]int{}
	for range 60000 {
		s := askedEncode(m.nestedRight(5))
		for range m.Intn(4) {
			s = m.spoil(s)
		}
		seen[wantAsked(t, s)]++
	}
	for range 8000 {
		n := 1 + m.Intn(6)
		s := ""
		for range n {
			s += m.piece()
		}
		seen[wantAsked(t, "E\x07"+bytesOf(byte(n))+s)]++
		seen[wantAsked(t, "E"+s)]++
	}
	for _, e := range []api.Errno{api.OK, api.ErrTermDeep, api.ErrTermSize, api.ErrEtfMark, api.ErrEtfShort, api.ErrEtfForm, api.ErrEtfMore} {
		if seen[e] < 100 {
			t.Errorf("P7.2: only %d were made that ask for %d", seen[e], e)
		}
	}
}

// All of few bytes out of those at which something turns.
func TestP7_2AllShort(t *testing.T) {
	for _, of := range []string{"\x00\x01\x02\x03\x06\x80a", "\x03\x00\x01\x02\x07ab", "\x04\x05\x00\x01\x40\x41\xff\x7f", "\x08\x06\x00\x01\x02\x80\x1f\x20"} {
		all := []string{"E"}
		for range 6 {
			var longer []string
			for _, s := range all {
				for i := range len(of) {
					longer = append(longer, s+of[i:i+1])
				}
			}
			all = nil
			for _, s := range longer {
				// What goes on behind what is wrong is refused for the same.
				if e := wantAsked(t, s); e == api.OK || e == api.ErrEtfShort {
					all = append(all, s)
				}
			}
		}
	}
}
