package etf_test

import (
	"math"
	"strings"
	"testing"

	"rookery/api"
)

func TestP7_2Wideness(t *testing.T) {
	for _, kind := range []int{api.KTuple, api.KList} {
		head := "E" + bytesOf(byte(kind))
		for _, n := range []int{0, 1, 127, 128, 255, 256} {
			wantDecode(t, "elements", head+v(uint64(n))+strings.Repeat("\x01\x02", n), api.Term{Kind: kind, L: many(n, integer(1))})
			wantRefused(t, "an element too many", head+v(uint64(n))+strings.Repeat("\x01\x02", n+1), api.ErrEtfMore)
			if n > 0 {
				wantRefused(t, "an element too few", head+v(uint64(n))+strings.Repeat("\x01\x02", n-1), api.ErrEtfShort)
			}
		}
		for _, n := range []uint64{257, 258, 512, 4096, 1 << 31, 1 << 32, 1<<32 + 1, 1 << 63, math.MaxUint64} {
			wantRefused(t, "too many elements", head+v(n)+strings.Repeat("\x01\x02", 257), api.ErrEtfForm)
			wantRefused(t, "too many elements, and no more", head+v(n), api.ErrEtfForm)
			wantRefused(t, "too many elements within", "E\x06\x02\x01\x00"+head[1:]+v(n), api.ErrEtfForm)
		}
	}
}

func TestP7_2Depth(t *testing.T) {
	for _, c := range samples() {
		if len(c.x.L) == 0 {
			wantDecode(t, "24 deep", nestedBytes(23)+c.s, nested(23, c.x))
		} else {
			wantRefused(t, "25 deep", nestedBytes(23)+c.s, api.ErrTermDeep)
		}
		wantRefused(t, "25 deep", nestedBytes(24)+c.s, api.ErrTermDeep)
	}
	wantDecode(t, "tuples 24 deep", "E"+strings.Repeat("\x06\x01", 23)+"\x07\x00", func() api.Term {
		x := list()
		for range 23 {
			x = tuple(x)
		}
		return x
	}())
	wantRefusals(t, "25 deep, whatever stands there", []refusal{
		{nestedBytes(24), api.ErrTermDeep}, {nestedBytes(24) + "\x00", api.ErrTermDeep}, {nestedBytes(24) + "\x01", api.ErrTermDeep}, {nestedBytes(30), api.ErrTermDeep}, {nestedBytes(65000), api.ErrTermDeep},
		{"E" + strings.Repeat("\x06\x01", 24), api.ErrTermDeep}, {nestedBytes(23) + "\x06\x80\x02", api.ErrTermDeep}, {nestedBytes(23), api.ErrEtfShort}, {nestedBytes(23) + "\x00", api.ErrEtfForm}, {nestedBytes(23) + "\x07\x81\x02", api.ErrEtfForm},
	})
	side := "\x07\x00"
	wantDecode(t, "24 deep behind others", "E"+strings.Repeat("\x07\x02"+side, 23)+"\x01\x00", func() api.Term {
		x := integer(0)
		for range 23 {
			x = list(list(), x)
		}
		return x
	}())
	wantRefused(t, "25 deep behind others", "E"+strings.Repeat("\x07\x02"+side, 24)+"\x01\x00", api.ErrTermDeep)
	wantDecode(t, "twice 24 deep", "E\x07\x02"+strings.Repeat(nestedBytes(22)[1:]+"\x01\x02", 2), list(nested(22, integer(1)), nested(22, integer(1))))
}

// So many parts, and one more than there may be: told where it would begin.
func TestP7_2Parts(t *testing.T) {
	wantDecode(t, "4095 parts", bytesOfParts(4095, 0), ofParts(4095))
	wantDecode(t, "4096 parts", bytesOfParts(4096, 0), ofParts(4096))
	wantRefusals(t, "4097 parts", []refusal{
		{bytesOfParts(4097, 0), api.ErrTermSize}, {bytesOfParts(4100, 0), api.ErrTermSize}, {bytesOfParts(4096, 1), api.ErrTermSize}, {bytesOfParts(4096, 1) + "\x00", api.ErrTermSize}, {bytesOfParts(4096, 1) + "\x01\x00", api.ErrTermSize},
		{bytesOfParts(4095, 1), api.ErrEtfShort}, {bytesOfParts(4095, 1) + "\x09", api.ErrEtfForm}, {bytesOfParts(4095, 1) + "\x07\x01", api.ErrTermSize}, {bytesOfParts(4095, 2) + "\x01\x00", api.ErrTermSize}, {bytesOfParts(4095, 1) + "\x07\x81\x02", api.ErrEtfForm},
		{bytesOfParts(4095, 1) + "\x01", api.ErrEtfShort}, {bytesOfParts(4096, 0) + "\x01", api.ErrEtfMore},
	})
	x := ofParts(4095)
	x.L = append(x.L, raw(""))
	wantDecode(t, "no bytes, and the last part", bytesOfParts(4095, 1)+"\x08\x00", x)
	wantRefused(t, "a byte too many", bytesOfParts(4095, 1)+"\x08\x01b", api.ErrTermSize)
	wantRefused(t, "a byte too many is told", bytesOfParts(4095, 1)+"\x08\x01", api.ErrTermSize)
}

// Bytes count as they are told, whether they are there or not.
func TestP7_2Bytes(t *testing.T) {
	b := strings.Repeat("b", 4200)
	for _, n := range []int{0, 1, 127, 128, 4094, 4095} {
		wantDecode(t, "bytes", "E\x08"+v(uint64(n))+b[:n], raw(b[:n]))
		wantRefused(t, "a byte more", "E\x08"+v(uint64(n))+b[:n+1], api.ErrEtfMore)
		if n > 0 {
			wantRefused(t, "a byte less", "E\x08"+v(uint64(n))+b[:n-1], api.ErrEtfShort)
			wantRefused(t, "none of them", "E\x08"+v(uint64(n)), api.ErrEtfShort)
		}
	}
	for _, n := range []uint64{4096, 4097, 1 << 16, 1<<31 - 1, 1 << 31, 1 << 32, 1<<32 + 1, 1 << 62, 1<<63 - 1, 1 << 63, 1<<63 + 1, math.MaxUint64 - 4096, math.MaxUint64 - 1, math.MaxUint64} {
		wantRefused(t, "too many bytes", "E\x08"+v(n)+b, api.ErrTermSize)
		wantRefused(t, "too many bytes, and none there", "E\x08"+v(n), api.ErrTermSize)
		wantRefused(t, "too many bytes, in a list", "E\x07\x02\x08"+v(n), api.ErrTermSize)
	}
	two := "E\x07\x02\x08" + v(2000) + b[:2000] + "\x08"
	wantDecode(t, "4093 bytes in two", two+v(2093)+b[:2093], list(raw(b[:2000]), raw(b[:2093])))
	wantRefused(t, "4094 bytes in two", two+v(2094)+b[:2094], api.ErrTermSize)
	wantRefused(t, "4094 bytes in two are told", two+v(2094), api.ErrTermSize)
	wantRefused(t, "4093 bytes in two, not there", two+v(2093), api.ErrEtfShort)
	full := "\x08" + v(4093) + b[:4093]
	wantDecode(t, "bytes, and a part behind them", "E\x07\x02"+full+"\x06\x00", list(raw(b[:4093]), tuple()))
	wantRefused(t, "bytes, and two parts behind them", "E\x07\x03"+full+"\x06\x00\x06\x00", api.ErrTermSize)
	wantRefused(t, "bytes, and two parts behind them, not there", "E\x07\x03"+full+"\x06\x00", api.ErrTermSize)
}

func TestP7_2Long(t *testing.T) {
	for _, n := range []int{131071, 131072} {
		x, s := ofLength(n)
		wantDecode(t, "long", s, x)
		wantRefused(t, "long, but for a byte", s[:n-1], api.ErrEtfShort)
		if n < api.MaxEtf {
			wantRefused(t, "as long, with a byte behind", s+"\x00", api.ErrEtfMore)
		} else {
			wantRefused(t, "too long", s+"\x00", api.ErrEtfLong)
		}
	}
	_, s := ofLength(131073)
	wantRefused(t, "too long", s, api.ErrEtfLong)
	for _, n := range []int{131073, 131074, 1 << 18, 1 << 22} {
		wantRefused(t, "too long, and no mark", strings.Repeat("\x00", n), api.ErrEtfLong)
		wantRefused(t, "too long", "E"+strings.Repeat("\x07", n-1), api.ErrEtfLong)
	}
	wantRefused(t, "long, and no mark", strings.Repeat("\x00", 131072), api.ErrEtfMark)
	wantRefused(t, "long, and no form", strings.Repeat("E", 131072), api.ErrEtfForm)
	wantRefused(t, "long, with more behind", "E\x01\x00"+strings.Repeat("\x00", 131069), api.ErrEtfMore)
}

func TestP7_2More(t *testing.T) {
	for _, c := range samples() {
		for b := range 256 {
			wantRefused(t, "something behind", "E"+c.s+bytesOf(byte(b)), api.ErrEtfMore)
		}
		wantRefused(t, "itself behind", "E"+c.s+c.s, api.ErrEtfMore)
		wantRefused(t, "itself behind, with the mark", "E"+c.s+"E"+c.s, api.ErrEtfMore)
	}
}
