package etf_test

import (
	"fmt"
	"math"
	"strings"
	"testing"

	"rookery/api"
)

func TestP7_2Examples(t *testing.T) {
	wantDecode(t, "example", bytesOf(69, 1, 0), integer(0))
	wantDecode(t, "example", bytesOf(69, 1, 1), integer(-1))
	wantDecode(t, "example", bytesOf(69, 7, 3, 3, 0, 1, 97, 3, 1, 1, 98, 3, 0), list(name("a"), name("b"), name("a")))
	wantRefused(t, "example", bytesOf(69, 1, 128, 0), api.ErrEtfForm)
	wantRefused(t, "example", bytesOf(69, 7, 1), api.ErrEtfShort)
}

// Every kind, alone and within others.
func TestP7_2Samples(t *testing.T) {
	for _, c := range samples() {
		wantDecode(t, "sample", "E"+c.s, c.x)
		wantDecode(t, "sample in a tuple", "E\x06\x03\x01\x0a"+c.s+"\x07\x00", tuple(integer(5), c.x, list()))
		wantDecode(t, "sample in a list", "E\x07\x02"+c.s+"\x08\x01z", list(c.x, raw("z")))
		wantDecode(t, "sample deep", nestedBytes(20)+c.s, nested(20, c.x))
	}
}

func TestP7_2Mark(t *testing.T) {
	wantRefused(t, "none at all", "", api.ErrEtfShort)
	wantRefused(t, "the mark alone", "E", api.ErrEtfShort)
	for c := range 256 {
		if c == 69 {
			continue
		}
		wantRefused(t, "another first byte", bytesOf(byte(c)), api.ErrEtfMark)
		wantRefused(t, "another first byte", bytesOf(byte(c))+"\x01\x00", api.ErrEtfMark)
		wantRefused(t, "another first byte, and none behind", bytesOf(byte(c), 69, 1, 0), api.ErrEtfMark)
	}
}

func TestP7_2Kinds(t *testing.T) {
	for c := range 256 {
		if c >= 1 && c <= 8 {
			wantRefused(t, "a kind and no more", "E"+bytesOf(byte(c)), api.ErrEtfShort)
			continue
		}
		wantRefused(t, "no kind", "E"+bytesOf(byte(c)), api.ErrEtfForm)
		wantRefused(t, "no kind", "E"+bytesOf(byte(c))+"\x00", api.ErrEtfForm)
		wantRefused(t, "no kind within", "E\x06\x02\x01\x00"+bytesOf(byte(c))+"\x00", api.ErrEtfForm)
	}
}

// wideAt: where a V may stand: what is ahead of it, what is behind it, and what
// is told of some number there.
type wideAt struct {
	what, ahead, behind string
	told                func(n uint64) (api.Term, api.Errno)
}

func wides() []wideAt {
	bad := func(e api.Errno) (api.Term, api.Errno) { return api.Term{}, e }
	return []wideAt{
		{"an int's", "E\x01", "", func(n uint64) (api.Term, api.Errno) {
			if n>>63 == 1 {
				return bad(api.ErrEtfForm)
			}
			if n%2 == 1 {
				return integer(-int64(n/2) - 1), api.OK
			}
			return integer(int64(n / 2)), api.OK
		}},
		{"an atom's", "E\x07\x02\x03\x00\x01a\x03", "", func(n uint64) (api.Term, api.Errno) {
			switch n {
			case 0:
				return list(name("a"), name("a")), api.OK
			case 1:
				return bad(api.ErrEtfShort)
			}
			return bad(api.ErrEtfForm)
		}},
		{"a Boot's", "E\x04\x05", "\x09", func(n uint64) (api.Term, api.Errno) {
			if n == 0 || n > math.MaxUint32 {
				return bad(api.ErrEtfForm)
			}
			return ref(5, uint32(n), 9), api.OK
		}},
		{"an N's", "E\x05\x05\x07", "", func(n uint64) (api.Term, api.Errno) {
			if n == 0 {
				return bad(api.ErrEtfForm)
			}
			return pid(5, 7, n), api.OK
		}},
		{"a list's", "E\x07", strings.Repeat("\x06\x00", 256), func(n uint64) (api.Term, api.Errno) {
			switch {
			case n > 256:
				return bad(api.ErrEtfForm)
			case n < 256:
				return bad(api.ErrEtfMore)
			}
			return list(many(256, tuple())...), api.OK
		}},
		{"bytes'", "E\x08", strings.Repeat("b", 4095), func(n uint64) (api.Term, api.Errno) {
			switch {
			case n > 4095:
				return bad(api.ErrTermSize)
			case n < 4095:
				return bad(api.ErrEtfMore)
			}
			return raw(strings.Repeat("b", 4095)), api.OK
		}},
	}
}

func TestP7_2Wide(t *testing.T) {
	numbers := []uint64{0, 1, 2, 127, 128, 129, 255, 256, 257, 4094, 4095, 4096, 16383, 16384, math.MaxUint32 - 1, math.MaxUint32, math.MaxUint32 + 1, math.MaxUint64, math.MaxUint64 - 1, math.MaxUint64 - 4095}
	for shift := range 64 {
		numbers = append(numbers, 1<<shift-1, 1<<shift, 1<<shift+1)
	}
	for _, w := range wides() {
		for _, n := range numbers {
			s := w.ahead + v(n)
			x, e := w.told(n)
			if e == api.OK {
				wantDecode(t, "a V, "+w.what, s+w.behind, x)
			} else {
				wantRefused(t, "a V, "+w.what, s+w.behind, e)
			}
			for cut := len(w.ahead); cut < len(s); cut++ {
				wantRefused(t, "a V cut off, "+w.what, s[:cut], api.ErrEtfShort)
			}
		}
	}
}

// The same number with a needless 0 behind it, one byte or some.
func TestP7_2WideNeedless(t *testing.T) {
	for _, w := range wides() {
		for long := 1; long <= 12; long++ {
			for _, c := range []string{"\x80", "\x81", "\xff"} {
				s := w.ahead + strings.Repeat(c, long)
				wantRefused(t, "a needless 0, "+w.what, s+"\x00"+w.behind, api.ErrEtfForm)
				wantRefused(t, "a needless 0 and no more, "+w.what, s+"\x00", api.ErrEtfForm)
				if long < 10 {
					wantRefused(t, "bytes with 128 and no more, "+w.what, s, api.ErrEtfShort)
				} else {
					wantRefused(t, "a tenth byte with 128, "+w.what, s, api.ErrEtfForm)
				}
			}
		}
	}
}

// The tenth byte is 1, or it is none of a V's.
func TestP7_2WideTenth(t *testing.T) {
	for _, w := range wides() {
		for c := range 256 {
			for _, nine := range []string{strings.Repeat("\x80", 9), strings.Repeat("\xff", 9), "\x80\xc0\xfe\xff\x80\x81\x82\xb8\x80"} {
				s := w.ahead + nine + bytesOf(byte(c))
				if c != 1 {
					wantRefused(t, fmt.Sprintf("the tenth byte %d, %s", c, w.what), s+w.behind, api.ErrEtfForm)
					wantRefused(t, fmt.Sprintf("the tenth byte %d and no more, %s", c, w.what), s, api.ErrEtfForm)
					wantRefused(t, fmt.Sprintf("the tenth byte %d and an eleventh, %s", c, w.what), s+"\x01"+w.behind, api.ErrEtfForm)
				}
			}
		}
	}
	wantDecode(t, "2^63", "E\x05\x01\x01"+strings.Repeat("\x80", 9)+"\x01", pid(1, 1, 1<<63))
	wantDecode(t, "2^64 - 1", "E\x05\x01\x01"+strings.Repeat("\xff", 9)+"\x01", pid(1, 1, math.MaxUint64))
	wantDecode(t, "2^63 - 1", "E\x05\x01\x01"+strings.Repeat("\xff", 8)+"\x7f", pid(1, 1, math.MaxInt64))
}

func TestP7_2Ints(t *testing.T) {
	wantDecode(t, "the greatest int", "E\x01"+v(1<<63-2), integer(api.MaxInt))
	wantDecode(t, "the least int", "E\x01"+v(1<<63-1), integer(api.MinInt))
	for _, n := range []uint64{1 << 63, 1<<63 + 1, math.MaxUint64 - 1, math.MaxUint64} {
		wantRefused(t, "no int", "E\x01"+v(n), api.ErrEtfForm)
		wantRefused(t, "no int within", "E\x06\x02\x01"+v(n)+"\x01\x00", api.ErrEtfForm)
	}
}

func TestP7_2Complex(t *testing.T) {
	zero := strings.Repeat("\x00", 8)
	part := func(bits uint64) string {
		s := ""
		for i := range 8 {
			s += bytesOf(byte(bits >> (56 - 8*i)))
		}
		return s
	}
	for _, bad := range []uint64{0x8000000000000000, 0x7ff0000000000000, 0xfff0000000000000, 0x7ff8000000000000, 0x7ff0000000000001, 0xfff8000000000001, 0xffffffffffffffff, 0x7fffffffffffffff} {
		for _, s := range []string{part(bad) + zero, zero + part(bad), part(bad) + part(bad)} {
			wantRefused(t, "no complex number", "E\x02"+s, api.ErrEtfForm)
			wantRefused(t, "no complex number within", "E\x06\x02\x02"+s+"\x01\x00", api.ErrEtfForm)
			for cut := range 16 {
				wantRefused(t, "no complex number, cut off", "E\x02"+s[:cut], api.ErrEtfShort)
			}
		}
	}
	for _, good := range []uint64{0, 1, 0x000fffffffffffff, 0x0010000000000000, 0x3ff0000000000000, 0x7fefffffffffffff, 0xffefffffffffffff, 0x8000000000000001, 0xbff0000000000000, 0x0102030405060708} {
		x := math.Float64frombits(good)
		wantDecode(t, "the real part", "E\x02"+part(good)+zero, cx(x, 0))
		wantDecode(t, "the imaginary part", "E\x02"+zero+part(good), cx(0, x))
		wantDecode(t, "both parts", "E\x02"+part(good)+part(1), cx(x, math.SmallestNonzeroFloat64))
	}
}

func TestP7_2Names(t *testing.T) {
	z := strings.Repeat("z", 40)
	wantDecode(t, "1 byte", "E\x03\x00\x01z", name("z"))
	wantDecode(t, "31 bytes", "E\x03\x00\x1f"+z[:31], name(z[:31]))
	wantDecode(t, "32 bytes", "E\x03\x00\x20"+z[:32], name(z[:32]))
	wantDecode(t, "its coming again", "E\x06\x04\x03\x00\x01b\x03\x00\x03\x01\x01a\x03\x00", tuple(name("b"), name("b"), name("a"), name("b")))
	for n := range 256 {
		if n < 1 || n > 32 {
			wantRefused(t, "a length", "E\x03\x00"+bytesOf(byte(n))+strings.Repeat("z", n), api.ErrEtfForm)
			wantRefused(t, "a length and no more", "E\x03\x00"+bytesOf(byte(n)), api.ErrEtfForm)
			wantRefused(t, "a length of the second one", "E\x07\x02\x03\x00\x01a\x03\x01"+bytesOf(byte(n)), api.ErrEtfForm)
			continue
		}
		wantDecode(t, "a length", "E\x03\x00"+bytesOf(byte(n))+z[:n], name(z[:n]))
		wantRefused(t, "a name cut off", "E\x03\x00"+bytesOf(byte(n))+z[:n-1], api.ErrEtfShort)
		wantRefused(t, "no name, cut off", "E\x03\x00"+bytesOf(byte(n))+strings.Repeat("Z", n-1), api.ErrEtfShort)
		wantRefused(t, "more than a name", "E\x03\x00"+bytesOf(byte(n))+z[:n+1], api.ErrEtfMore)
	}
	for _, n := range []uint64{1, 2, 255, 256, 1 << 32, 1 << 63, math.MaxUint64} {
		wantRefused(t, "above the next one, which is 0", "E\x03"+v(n)+"\x01a", api.ErrEtfForm)
		wantRefused(t, "above the next one, and no more", "E\x03"+v(n), api.ErrEtfForm)
		wantRefused(t, "above the next one, which is 1", "E\x07\x02\x03\x00\x01a\x03"+v(max(n, 2))+"\x01b", api.ErrEtfForm)
	}
}

// Each byte as a name's first one, and as another one.
func TestP7_2NameBytes(t *testing.T) {
	const lower = "abcdefghijklmnopqrstuvwxyz"
	const others = lower + "ABCDEFGHIJKLMNOPQRSTUVWXYZ0123456789_"
	for c := range 256 {
		s := bytesOf(byte(c))
		if strings.Contains(lower, s) {
			wantDecode(t, "a name's first byte", "E\x03\x00\x02"+s+"a", name(s+"a"))
		} else {
			wantRefused(t, "no name's first byte", "E\x03\x00\x02"+s+"a", api.ErrEtfForm)
			wantRefused(t, "no name", "E\x03\x00\x01"+s, api.ErrEtfForm)
		}
		if strings.Contains(others, s) {
			wantDecode(t, "a name's byte", "E\x03\x00\x03a"+s+"b", name("a"+s+"b"))
		} else {
			wantRefused(t, "no name's byte", "E\x03\x00\x03a"+s+"b", api.ErrEtfForm)
			wantRefused(t, "no name's last byte", "E\x03\x00\x20"+strings.Repeat("a", 31)+s, api.ErrEtfForm)
		}
	}
}

// A name that came may come again as its number, and not as a new one.
func TestP7_2NamesAgain(t *testing.T) {
	wantRefusals(t, "a name that came", []refusal{
		{"E\x07\x02\x03\x00\x01a\x03\x01\x01a", api.ErrEtfForm}, {"E\x07\x03\x03\x00\x01a\x03\x01\x01b\x03\x02\x01a", api.ErrEtfForm}, {"E\x07\x03\x03\x00\x01a\x03\x01\x01b\x03\x02\x01b", api.ErrEtfForm},
		{"E\x07\x02\x06\x01\x03\x00\x01a\x06\x01\x03\x01\x01a", api.ErrEtfForm}, {"E\x07\x02\x03\x00\x01a\x03\x00\x01a", api.ErrEtfMore}, {"E\x07\x02\x03\x00\x01a\x03\x00\x01b", api.ErrEtfMore},
	})
	s, x := "", list()
	for i := range 200 {
		s += "\x03" + v(uint64(i)) + "\x20" + numbered(i)
		x.L = append(x.L, name(numbered(i)))
		told := "E\x07" + v(uint64(i+2)) + s + "\x03"
		for _, n := range []int{0, i / 2, i} {
			wantDecode(t, "a number of one that came", told+v(uint64(n)), list(append(x.L[:i+1:i+1], name(numbered(n)))...))
			wantRefused(t, "a name that came", told+v(uint64(i+1))+"\x20"+numbered(n), api.ErrEtfForm)
		}
		wantRefused(t, "above the next number", told+v(uint64(i+2))+"\x20"+numbered(i+1), api.ErrEtfForm)
	}
}

func TestP7_2Ids(t *testing.T) {
	for _, kind := range []string{"\x04", "\x05"} {
		id := func(node, boot, n uint64) api.Term {
			return api.Term{Kind: int(kind[0]), Id: api.Id{Node: int(node), Boot: uint32(boot), N: n}}
		}
		for node := range uint64(256) {
			s := "E" + kind + bytesOf(byte(node)) + "\x01\x01"
			if node >= 1 && node <= 64 {
				wantDecode(t, "a node", s, id(node, 1, 1))
			} else {
				wantRefused(t, "no node", s, api.ErrEtfForm)
				wantRefused(t, "no node, and no more", s[:3], api.ErrEtfShort)
				wantRefused(t, "no node, and no N", s[:4], api.ErrEtfShort)
			}
		}
		for _, boot := range []uint64{1, 2, 127, 128, 1<<31 - 1, 1 << 31, 1<<32 - 2, 1<<32 - 1} {
			wantDecode(t, "a boot", "E"+kind+"\x01"+v(boot)+"\x01", id(1, boot, 1))
		}
		for _, boot := range []uint64{1 << 32, 1<<32 + 1, 1 << 33, 1 << 40, 1 << 63, math.MaxUint64} {
			wantRefused(t, "no boot", "E"+kind+"\x01"+v(boot)+"\x01", api.ErrEtfForm)
			wantRefused(t, "no boot, and no N", "E"+kind+"\x01"+v(boot), api.ErrEtfForm)
		}
		wantRefusals(t, "an id that may not be", []refusal{
			{"E" + kind + "\x01\x00\x01", api.ErrEtfForm}, {"E" + kind + "\x01\x01\x00", api.ErrEtfForm}, {"E" + kind + "\x00\x00\x00", api.ErrEtfForm}, {"E" + kind + "\x40\x00\x01\x00", api.ErrEtfForm},
			{"E" + kind + "\x01\x00", api.ErrEtfShort}, {"E" + kind + "\x01", api.ErrEtfShort}, {"E" + kind + "\x01\x01", api.ErrEtfShort}, {"E" + kind + "\x01\x01\x80", api.ErrEtfShort},
		})
	}
}
