package text_test

import (
	"fmt"
	"math"
	"strings"
	"testing"

	"rookery/api"
	"rookery/text"
)

type refusal struct {
	s  string
	at int
	e  api.Errno
}

func wantRefusals(t *testing.T, what string, l []refusal) {
	t.Helper()
	for _, c := range l {
		wantRefused(t, what, c.s, c.at, c.e)
	}
}

func TestP4_2Samples(t *testing.T) {
	for _, c := range samples() {
		wantParse(t, "sample", c.s, c.x)
	}
}

func TestP4_2Examples(t *testing.T) {
	wantRefusals(t, "example", []refusal{
		{"[1,2", 4, api.ErrTextForm}, {"1 ", 1, api.ErrTextMore}, {"01", 1, api.ErrTextMore}, {"-0", 1, api.ErrTextForm},
		{"", 0, api.ErrTextForm}, {"#p0.1.1", 0, api.ErrTextForm}, {`"\x41"`, 3, api.ErrTextForm},
	})
	wantPrint(t, "example", tuple(integer(-5), name("ok"), raw("\x01\x22")), `{-5,ok,"\x01\""}`, api.OK)
	wantPrint(t, "example 9", tuple(name("a"), list(integer(1))), "{a,[1]}", api.OK)
}

// A part begins with few bytes, wherever it stands.
func TestP4_2FirstByte(t *testing.T) {
	for c := range 256 {
		s := string([]byte{byte(c)})
		if strings.Contains("{[\"#-0123456789abcdefghijklmnopqrstuvwxyz", s) {
			continue
		}
		wantRefused(t, "first byte", s, 0, api.ErrTextForm)
		wantRefused(t, "first byte", "[1,"+s, 3, api.ErrTextForm)
		if s != "}" {
			wantRefused(t, "first byte", "{"+s, 1, api.ErrTextForm)
		}
		if s != "]" {
			wantRefused(t, "first byte", "["+s, 1, api.ErrTextForm)
		}
	}
}

func TestP4_2Ints(t *testing.T) {
	nines := strings.Repeat("9", 20)
	wantRefusals(t, "int", []refusal{
		{"4611686018427387904", 0, api.ErrTextForm}, {"-4611686018427387905", 0, api.ErrTextForm}, {"[1,4611686018427387904]", 3, api.ErrTextForm},
		{"9223372036854775807", 0, api.ErrTextForm}, {"9223372036854775808", 0, api.ErrTextForm}, {"-9223372036854775809", 0, api.ErrTextForm}, {"18446744073709551616", 0, api.ErrTextForm},
		{nines, 0, api.ErrTextForm}, {"-" + nines, 0, api.ErrTextForm}, {"[" + nines + "]", 1, api.ErrTextForm}, {"1" + nines[:19], 0, api.ErrTextForm},
		{nines + "0", 20, api.ErrTextForm}, {"-" + nines + "9", 21, api.ErrTextForm}, {"[" + nines + "9]", 21, api.ErrTextForm}, {"1" + nines + nines, 20, api.ErrTextForm},
		{"-", 1, api.ErrTextForm}, {"--1", 1, api.ErrTextForm}, {"-a", 1, api.ErrTextForm}, {"-00", 1, api.ErrTextForm}, {"-01", 1, api.ErrTextForm}, {"+1", 0, api.ErrTextForm},
		{"00", 1, api.ErrTextMore}, {"0" + nines, 1, api.ErrTextMore}, {"[00]", 2, api.ErrTextForm}, {"[01]", 2, api.ErrTextForm}, {"[1,-0]", 4, api.ErrTextForm},
		{"1-", 1, api.ErrTextMore}, {"1.5", 1, api.ErrTextMore}, {"1e3", 1, api.ErrTextMore}, {"12a", 2, api.ErrTextMore}, {"1_0", 1, api.ErrTextMore}, {"0x1", 1, api.ErrTextMore},
	})
	for n := range 25 {
		wantRefused(t, "digits behind a 0", "{0"+strings.Repeat("0", n+1)+"}", 2, api.ErrTextForm)
	}
}

func TestP4_2Names(t *testing.T) {
	wantParse(t, "31 bytes", strings.Repeat("a", 31), name(strings.Repeat("a", 31)))
	wantParse(t, "32 bytes", "z"+strings.Repeat("_", 31), name("z"+strings.Repeat("_", 31)))
	wantRefusals(t, "name", []refusal{
		{strings.Repeat("a", 33), 0, api.ErrTextForm}, {"[ok," + strings.Repeat("a", 33) + "]", 4, api.ErrTextForm}, {strings.Repeat("a", 65536), 0, api.ErrTextForm},
		{"A", 0, api.ErrTextForm}, {"_a", 0, api.ErrTextForm}, {"a b", 1, api.ErrTextMore}, {" a", 0, api.ErrTextForm}, {"a-b", 1, api.ErrTextMore}, {"é", 0, api.ErrTextForm}, {"aé", 1, api.ErrTextMore},
	})
	for c := range 256 {
		s := string([]byte{byte(c)})
		if strings.Contains("abcdefghijklmnopqrstuvwxyzABCDEFGHIJKLMNOPQRSTUVWXYZ0123456789_", s) {
			wantParse(t, "a byte of a name", "a"+s, name("a"+s))
			wantRefused(t, "the 33rd byte of a name", strings.Repeat("a", 32)+s, 0, api.ErrTextForm)
		} else {
			wantRefused(t, "no byte of a name", "a"+s, 1, api.ErrTextMore)
			wantRefused(t, "no byte of a name", strings.Repeat("a", 32)+s, 32, api.ErrTextMore)
		}
	}
}

func TestP4_2Complex(t *testing.T) {
	zero := strings.Repeat("0", 32)
	wantRefusals(t, "digits behind #c", []refusal{
		{"#c", 2, api.ErrTextForm}, {"#c" + zero[1:], 33, api.ErrTextForm}, {"#c" + zero + "0", 34, api.ErrTextMore}, {"[#c" + zero + "0]", 35, api.ErrTextForm}, {"[#c" + zero[1:] + "]", 34, api.ErrTextForm},
		{"#C" + zero, 1, api.ErrTextForm}, {"#c" + zero[:16] + "g" + zero[17:], 18, api.ErrTextForm}, {"#c-" + zero[1:], 2, api.ErrTextForm}, {"#c ", 2, api.ErrTextForm},
	})
	for i := range 32 {
		for _, c := range "ABCDEFGgx.,\x00" {
			wantRefused(t, "no digit", "#c"+zero[:i]+string(c)+zero[i+1:], 2+i, api.ErrTextForm)
		}
	}
	for _, bad := range []uint64{0x7ff0000000000000, 0xfff0000000000000, 0x7ff8000000000000, 0x7ff0000000000001, 0xffffffffffffffff, 0x8000000000000000} {
		for _, s := range []string{fmt.Sprintf("#c%016x%016x", bad, 0), fmt.Sprintf("#c%016x%016x", 0, bad), fmt.Sprintf("#c%016x%016x", bad, bad)} {
			wantRefused(t, "no complex number", s, 0, api.ErrTextForm)
			wantRefused(t, "no complex number", "{a,"+s+"}", 3, api.ErrTextForm)
		}
	}
	for _, good := range []uint64{0, 1, 0x7fefffffffffffff, 0xffefffffffffffff, 0x8000000000000001} {
		p := math.Float64frombits(good)
		wantParse(t, "a complex number", fmt.Sprintf("#c%016x%016x", good, 0), cx(p, 0))
		wantParse(t, "a complex number", fmt.Sprintf("#c%016x%016x", 0, good), cx(0, p))
	}
}

func TestP4_2Ids(t *testing.T) {
	nines := strings.Repeat("9", 20)
	for _, m := range []string{"#p", "#r"} {
		wantRefusals(t, "id that may not be", []refusal{
			{m + "0.1.1", 0, api.ErrTextForm}, {m + "1.0.1", 0, api.ErrTextForm}, {m + "1.1.0", 0, api.ErrTextForm}, {m + "65.1.1", 0, api.ErrTextForm}, {"[a," + m + "65.1.1]", 3, api.ErrTextForm},
			{m + "1.4294967296.1", 0, api.ErrTextForm}, {m + "1.1.18446744073709551616", 0, api.ErrTextForm}, {m + nines + ".1.1", 0, api.ErrTextForm}, {m + "1." + nines + ".1", 0, api.ErrTextForm}, {m + "1.1." + nines, 0, api.ErrTextForm},
			{m + "4294967297.1.1", 0, api.ErrTextForm}, {m + "18446744073709551617.1.1", 0, api.ErrTextForm}, {m + "1.4294967297.1", 0, api.ErrTextForm}, {m + "1.18446744073709551617.1", 0, api.ErrTextForm},
		})
		wantRefusals(t, "no id by the form", []refusal{
			{m, 2, api.ErrTextForm}, {m + "1", 3, api.ErrTextForm}, {m + "1.", 4, api.ErrTextForm}, {m + "1.1", 5, api.ErrTextForm}, {m + "1.1.", 6, api.ErrTextForm}, {m + ".1.1", 2, api.ErrTextForm}, {m + "1..1", 4, api.ErrTextForm},
			{m + "-1.1.1", 2, api.ErrTextForm}, {m + "1.-1.1", 4, api.ErrTextForm}, {m + "1.1.-1", 6, api.ErrTextForm}, {m + "1,1,1", 3, api.ErrTextForm}, {m + "a", 2, api.ErrTextForm},
			{m + "01.1.1", 3, api.ErrTextForm}, {m + "1.01.1", 5, api.ErrTextForm}, {m + "0.1", 5, api.ErrTextForm}, {m + "65.1.", 7, api.ErrTextForm}, {m + "65.x", 5, api.ErrTextForm},
			{m + nines + "1.1.1", 22, api.ErrTextForm}, {m + "1." + nines + "1.1", 24, api.ErrTextForm}, {m + "1.1." + nines + "1", 26, api.ErrTextForm},
			{m + "1.1.1.", 7, api.ErrTextMore}, {m + "1.1.1 ", 7, api.ErrTextMore}, {"[" + m + "1.1.1.1]", 8, api.ErrTextForm},
		})
	}
	for c := range 256 {
		if c != 'c' && c != 'r' && c != 'p' {
			wantRefused(t, "no mark", "#"+string([]byte{byte(c)})+"1.1.1", 1, api.ErrTextForm)
		}
	}
	wantRefused(t, "no mark", "#", 1, api.ErrTextForm)
}

func TestP4_2Quotes(t *testing.T) {
	for c := range 256 {
		s := string([]byte{byte(c)})
		switch {
		case c == '"':
			wantRefused(t, "a quote", `""`+`"`, 2, api.ErrTextMore)
		case c == '\\':
			wantRefused(t, "a quote behind a \\", `"\"`, 3, api.ErrTextForm)
		case c < 32 || c > 126:
			wantRefused(t, "a byte that does not stand as it is", `"`+s+`"`, 1, api.ErrTextForm)
		default:
			wantParse(t, "a byte that stands as it is", `"`+s+`"`, raw(s))
		}
		switch s {
		case `"`, `\`:
			wantParse(t, "an escape", `"\`+s+`"`, raw(s))
		case "x":
			wantRefused(t, "no digits", `"\x"`, 3, api.ErrTextForm)
		default:
			wantRefused(t, "no escape", `"\`+s+`"`, 2, api.ErrTextForm)
		}
	}
	wantRefusals(t, "quotes", []refusal{
		{`"`, 1, api.ErrTextForm}, {`"a`, 2, api.ErrTextForm}, {`"\`, 2, api.ErrTextForm}, {`"\x`, 3, api.ErrTextForm}, {`"\x0`, 4, api.ErrTextForm}, {`"\x00`, 5, api.ErrTextForm},
		{`"\n"`, 2, api.ErrTextForm}, {`"\X00"`, 2, api.ErrTextForm}, {`""""`, 2, api.ErrTextMore}, {`"é"`, 1, api.ErrTextForm}, {`'a'`, 0, api.ErrTextForm},
	})
}

// Of the digits behind \x the first one that no byte which is written so has.
func TestP4_2Digits(t *testing.T) {
	const digits = "0123456789abcdef"
	for c := range 256 {
		s := fmt.Sprintf(`"\x%02x"`, c)
		switch {
		case c < 32 || c > 126:
			wantParse(t, "digits of a byte", s, raw(string([]byte{byte(c)})))
		case c >= 0x70:
			wantRefused(t, "the second digit", s, 4, api.ErrTextForm)
		default:
			wantRefused(t, "the first digit", s, 3, api.ErrTextForm)
		}
		x := string([]byte{byte(c)})
		if !strings.Contains(digits, x) {
			wantRefused(t, "no digit", `"\x`+x+`0"`, 3, api.ErrTextForm)
			wantRefused(t, "no digit", `"\x0`+x+`"`, 4, api.ErrTextForm)
			wantRefused(t, "no digit", `"\x7`+x+`"`, 4, api.ErrTextForm)
		}
	}
	wantRefusals(t, "capital digits", []refusal{{`"\xFF"`, 3, api.ErrTextForm}, {`"\xfF"`, 4, api.ErrTextForm}, {`"\x1F"`, 4, api.ErrTextForm}, {`"\x7F"`, 4, api.ErrTextForm}, {`"\x"`, 3, api.ErrTextForm}, {`"\x7"`, 4, api.ErrTextForm}})
}

func TestP4_2Elements(t *testing.T) {
	wantRefusals(t, "elements", []refusal{
		{"[", 1, api.ErrTextForm}, {"{", 1, api.ErrTextForm}, {"]", 0, api.ErrTextForm}, {"}", 0, api.ErrTextForm}, {",", 0, api.ErrTextForm}, {"[}", 1, api.ErrTextForm}, {"{]", 1, api.ErrTextForm}, {"{1]", 2, api.ErrTextForm}, {"[1}", 2, api.ErrTextForm},
		{"[1,]", 3, api.ErrTextForm}, {"[,1]", 1, api.ErrTextForm}, {"[,]", 1, api.ErrTextForm}, {"[1,,2]", 3, api.ErrTextForm}, {"[1 ,2]", 2, api.ErrTextForm}, {"[1, 2]", 3, api.ErrTextForm}, {"[ ]", 1, api.ErrTextForm}, {"[1 2]", 2, api.ErrTextForm}, {"{1;2}", 2, api.ErrTextForm},
		{"[[]", 3, api.ErrTextForm}, {"[[]]]", 4, api.ErrTextMore}, {"{}{}", 2, api.ErrTextMore}, {"{},", 2, api.ErrTextMore}, {"1,2", 1, api.ErrTextMore}, {"{a}\n", 3, api.ErrTextMore}, {"{a\n}", 2, api.ErrTextForm}, {"[a{}]", 2, api.ErrTextForm}, {`[a""]`, 2, api.ErrTextForm}, {"[1#p1.1.1]", 2, api.ErrTextForm},
	})
}

func TestP4_2Depth(t *testing.T) {
	deep := strings.Repeat("[", 23)
	wantParse(t, "a part at depth 24", deep+"1"+strings.Repeat("]", 23), nested(23, integer(1)))
	wantParse(t, "an empty list at depth 24", deep+"[]"+strings.Repeat("]", 23), nested(23, list()))
	wantParse(t, "two parts at depth 24", deep+"{},a"+strings.Repeat("]", 23), nested(22, list(tuple(), name("a"))))
	for _, s := range []string{"1]", "[]", "a", `"x"`, "{}", "#p1.1.1", "4611686018427387904", "", ",", "}", " ", "?"} {
		wantRefused(t, "a part at depth 25", deep+"["+s, 24, api.ErrTermDeep)
		wantRefused(t, "a part at depth 25 behind others", "[1,"+deep+s, 26, api.ErrTermDeep)
	}
	wantRefused(t, "a part at depth 25 in a tuple", strings.Repeat("{", 25), 24, api.ErrTermDeep)
	wantRefused(t, "a sign that ends no tuple", strings.Repeat("{", 24)+"]", 24, api.ErrTermDeep)
	wantRefused(t, "depth without end", strings.Repeat("[", 65536), 24, api.ErrTermDeep)
	wantRefused(t, "behind a comma the depth is the same", deep+"1,", 25, api.ErrTextForm)
}

func TestP4_2SizeAtBeginning(t *testing.T) {
	full := textOfParts(4096)
	wantParse(t, "4096 parts", full, ofParts(4096))
	open := strings.TrimSuffix(full, "]]") + ","
	for _, s := range []string{"1]]", "[]]]", "a", `""`, "4611686018427387904", "", ",", "]", "}", "?", "01"} {
		wantRefused(t, "4097 parts", open+s, len(open), api.ErrTermSize)
	}
	open = strings.TrimSuffix(full, "]") + ","
	wantRefused(t, "4097 parts, the last one a list of lists", open+"[]]", len(open), api.ErrTermSize)
	wantParse(t, "an empty list as the last part", textOfParts(4095)[:len(textOfParts(4095))-1]+",[]]", list(append(ofParts(4095).L, list())...))

	b := strings.Repeat("b", 4093)
	wantParse(t, "parts and bytes, 4096", `["`+b+`",1]`, list(raw(b), integer(1)))
	wantRefused(t, "parts and bytes, 4097", `["b`+b+`",1]`, 4098, api.ErrTermSize)
	wantRefused(t, "parts and bytes, 4097", `["b`+b+`",]`, 4098, api.ErrTermSize)
	wantRefused(t, "parts and bytes, 4097", `["b`+b+`",`, 4098, api.ErrTermSize)
	wantRefused(t, "parts and bytes, 4097, as digits", `["`+strings.Repeat(`\x00`, 4094)+`",{}]`, 4*4094+4, api.ErrTermSize)
}

func TestP4_2SizeInQuotes(t *testing.T) {
	for _, piece := range []string{"b", " ", `\"`, `\\`, `\x00`, `\xff`} {
		one, _, _ := text.Parse(`"` + piece + `"`)
		b := strings.Repeat(piece, 4095)
		wantParse(t, "4095 bytes", `"`+b+`"`, raw(strings.Repeat(string(one.B), 4095)))
		wantRefused(t, "4096 bytes", `"`+b+piece+`"`, 0, api.ErrTermSize)
		wantRefused(t, "4094 bytes and three parts", `[1,"`+b[len(piece):]+`"]`, 3, api.ErrTermSize)
		wantRefused(t, "4094 bytes and three parts", `[1,"`+b[len(piece):]+`"`, 3, api.ErrTermSize)
		wantParse(t, "4093 bytes and three parts", `[1,"`+b[2*len(piece):]+`"]`, list(integer(1), raw(strings.Repeat(string(one.B), 4093))))
		wantRefused(t, "4096 bytes without an end", `"`+b+piece, 1+4096*len(piece), api.ErrTextForm)
		wantRefused(t, "4096 bytes and a byte that can't be", `"`+b+piece+"\n\"", 1+4096*len(piece), api.ErrTextForm)
	}
	half := strings.Repeat("h", 2046)
	wantParse(t, "bytes in two parts", `{"`+half+`","h`+half+`"}`, tuple(raw(half), raw("h"+half)))
	wantRefused(t, "bytes in two parts", `{"h`+half+`","h`+half+`"}`, 2051, api.ErrTermSize)
}

func TestP4_2Width(t *testing.T) {
	for _, c := range []struct {
		open, end string
		kind      int
	}{{"[", "]", api.KList}, {"{", "}", api.KTuple}} {
		for _, part := range []string{"1", "[]", `"b"`, "abc"} {
			one, _, _ := text.Parse(part)
			s := c.open + row(256, part)
			wantParse(t, "256 elements", s+c.end, api.Term{Kind: c.kind, L: many(256, one)})
			wantParse(t, "256 elements within", "{"+s+c.end+",1}", tuple(api.Term{Kind: c.kind, L: many(256, one)}, integer(1)))
			for _, more := range []string{",1" + c.end, ",", ",,", "," + c.end, ",?", ",4611686018427387904"} {
				wantRefused(t, "a comma behind 256 elements", s+more, len(s), api.ErrTermWide)
				wantRefused(t, "a comma behind 256 elements within", "[7,"+s+more, len(s)+3, api.ErrTermWide)
			}
			wantRefused(t, "256 elements and no end", s, len(s), api.ErrTextForm)
			wantRefused(t, "256 elements and no comma", s+";", len(s), api.ErrTextForm)
		}
	}
}

func TestP4_2Length(t *testing.T) {
	x, s := ofLength(65536)
	wantParse(t, "65536 bytes", s, x)
	wantRefused(t, "65537 bytes", s+" ", 0, api.ErrTextLong)
	_, s = ofLength(65537)
	wantRefused(t, "65537 bytes", s, 0, api.ErrTextLong)
	_, s = ofLength(65535)
	wantRefused(t, "65536 bytes, one behind the term", s+" ", 65535, api.ErrTextMore)
	for _, c := range []string{"1", "a", "[", "\"", "?", "\x00"} {
		wantRefused(t, "65537 bytes", strings.Repeat(c, 65537), 0, api.ErrTextLong)
	}
	wantRefused(t, "65536 bytes", `"`+strings.Repeat("a", 65535), 65536, api.ErrTextForm)
	wantRefused(t, "65536 bytes", `"`+strings.Repeat("a", 65534)+`"`, 0, api.ErrTermSize)
}

// A text that is cut off anywhere ends where more was needed.
func TestP4_2CutOff(t *testing.T) {
	long, _ := text.Print(tuple(nested(20, integer(7)), raw("\x00\"\\~"), cx(1, 2), pid(12, 34, 56), ref(64, 1, 9), name("abc"), list(integer(-12), tuple())))
	texts := []string{long, `"\x00\"\\ ~\x7f"`, "#c3ff00000000000000000000000000000", "[[1,-23],{a,bc}]", "{#p1.2.3,#r10.20.30}", "[[],{}]"}
	for _, c := range samples() {
		texts = append(texts, "["+c.s+"]", "{"+c.s+","+c.s+"}")
	}
	for _, s := range texts {
		if _, _, e := text.Parse(s); e != api.OK {
			t.Errorf("P4.2: Parse(%q): %d", s, e)
		}
		for i := range len(s) {
			wantRefused(t, "cut off", s[:i], i, api.ErrTextForm)
		}
	}
}

// Behind a term stands nothing; but ints, names and ids may go on.
func TestP4_2Behind(t *testing.T) {
	for _, c := range samples() {
		goesOn := ""
		switch {
		case c.x.Kind == api.KInt && c.x.N != 0 || c.x.Kind == api.KPid || c.x.Kind == api.KRef:
			goesOn = "0123456789"
		case c.x.Kind == api.KAtom:
			goesOn = "0123456789_abcdefghijklmnopqrstuvwxyzABCDEFGHIJKLMNOPQRSTUVWXYZ"
		}
		for b := range 256 {
			if more := string([]byte{byte(b)}); !strings.Contains(goesOn, more) {
				wantRefused(t, "a byte behind the term", c.s+more, len(c.s), api.ErrTextMore)
				wantRefused(t, "bytes behind the term", c.s+more+"??", len(c.s), api.ErrTextMore)
			}
		}
	}
}
