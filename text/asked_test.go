package text_test

import (
	"math/big"
	"regexp"
	"strconv"
	"strings"

	"rookery/api"
)

// What Parse must answer, worked out apart from it: without a panic or a call
// that calls itself, by expressions for the texts of parts without elements,
// whole (wholePart) and cut off anywhere (cutPart).

const (
	aNumber = `(0|[1-9][0-9]{0,19})`
	aByte   = `([ !#-\[\]-~]|\\["\\]|\\x([0189a-f][0-9a-f]|7f))`
)

var (
	wholePart = longest(`^(0|-?[1-9][0-9]{0,19}|[a-z][a-zA-Z0-9_]*|#c[0-9a-f]{32}|#[rp]` + aNumber + `\.` + aNumber + `\.` + aNumber + `|"` + aByte + `*")`)
	cutPart   = longest(`^(0|-?([1-9][0-9]{0,19})?|([a-z][a-zA-Z0-9_]*)?|#(c[0-9a-f]{0,32})?|#[rp](` + aNumber + `(\.(` + aNumber + `(\.` + aNumber + `?)?)?)?)?|"` + aByte + `*("|\\(x[01789a-f]?)?)?)`)
	ofDigits  = regexp.MustCompile(`^(-?|#[rp]\d+\.\d+\.)\d{20}$`)
)

func longest(s string) *regexp.Regexp {
	e := regexp.MustCompile(s)
	e.Longest()
	return e
}

func byteAt(s string, at int) string {
	if at < len(s) {
		return s[at : at+1]
	}
	return ""
}

// asked: the term, or the place and the error.
func asked(s string) (api.Term, int, api.Errno) {
	if len(s) > 65536 {
		return api.Term{}, 0, api.ErrTextLong
	}
	top := api.Term{}
	within := []*api.Term{&top}
	ends := []string{"none"}
	at, size := 0, 0
	for begin := true; ; {
		deep := len(within) - 1
		if begin {
			if deep == 24 {
				return api.Term{}, at, api.ErrTermDeep
			}
			size++
			if size > 4096 {
				return api.Term{}, at, api.ErrTermSize
			}
			begin = false
			if i := strings.IndexByte("{[", (byteAt(s, at) + " ")[0]); i >= 0 {
				l := &within[deep].L
				*l = append(*l, api.Term{Kind: api.KTuple + i})
				within, ends = append(within, &(*l)[len(*l)-1]), append(ends, []string{"}", "]"}[i])
				at++
				begin = byteAt(s, at) != ends[deep+1]
				continue
			}
			x, n, back, e := askedSingle(s, at)
			if e != api.OK {
				return api.Term{}, at + n - back, e
			}
			size += len(x.B)
			if size > 4096 {
				return api.Term{}, at, api.ErrTermSize
			}
			within[deep].L = append(within[deep].L, x)
			at += n
			continue
		}
		switch c := byteAt(s, at); {
		case deep == 0 && c == "":
			return top.L[0], 0, api.OK
		case deep == 0:
			return api.Term{}, at, api.ErrTextMore
		case c == ends[deep]:
			within, ends = within[:deep], ends[:deep]
			at++
		case c == "," && len(within[deep].L) == 256:
			return api.Term{}, at, api.ErrTermWide
		case c == ",":
			at++
			begin = true
		default:
			return api.Term{}, at, api.ErrTextForm
		}
	}
}

// askedSingle: the part without elements that begins there, how many bytes it
// has, and how far ahead of these what is wrong with it is told.
func askedSingle(s string, at int) (x api.Term, n, back int, e api.Errno) {
	cut := cutPart.FindString(s[at:])
	if wholePart.FindString(cut) != cut || cut == "" {
		return x, len(cut), 0, api.ErrTextForm
	}
	if next := byteAt(s, at+len(cut)); ofDigits.MatchString(cut) && next >= "0" && next <= "9" {
		return x, len(cut), 0, api.ErrTextForm
	}
	x, ok := askedValue(cut)
	if !ok {
		return api.Term{}, len(cut), len(cut), api.ErrTextForm
	}
	return x, len(cut), 0, api.OK
}

// askedValue: the term of a text that is of the form, if there is one.
func askedValue(s string) (api.Term, bool) {
	switch {
	case strings.HasPrefix(s, "#c"):
		p, pOk := askedFloat(s[2:18])
		q, qOk := askedFloat(s[18:34])
		return cx(p, q), pOk && qOk
	case strings.HasPrefix(s, "#"):
		var n [3]uint64
		for i, max := range []string{"64", "4294967295", "18446744073709551615"} {
			text := strings.Split(s[2:], ".")[i]
			if !between(text, "1", max) {
				return api.Term{}, false
			}
			n[i], _ = strconv.ParseUint(text, 10, 64)
		}
		kind := map[byte]int{'r': api.KRef, 'p': api.KPid}[s[1]]
		return api.Term{Kind: kind, Id: api.Id{Node: int(n[0]), Boot: uint32(n[1]), N: n[2]}}, true
	case strings.HasPrefix(s, `"`):
		b, err := strconv.Unquote(s)
		return raw(b), err == nil
	case s[0] >= 'a':
		return name(s), len(s) <= 32
	}
	n, _ := strconv.ParseInt(s, 10, 64)
	return integer(n), between(s, "-4611686018427387904", "4611686018427387903")
}

func askedFloat(s string) (float64, bool) {
	bits := 0.0
	n, _ := strconv.ParseUint(s, 16, 64)
	exponent, rest := int(n>>52&0x7ff), float64(n&(1<<52-1))
	if exponent == 0x7ff || n == 1<<63 {
		return 0, false
	}
	if exponent == 0 {
		bits = scale(rest, -1074)
	} else {
		bits = scale(rest+1<<52, exponent-1075)
	}
	if n>>63 == 1 {
		bits = -bits
	}
	return bits, true
}

// scale: x times 2 to the power of n; x has at most 53 bits.
func scale(x float64, n int) float64 {
	out, _ := new(big.Float).SetMantExp(big.NewFloat(x), n).Float64()
	return out
}

func between(s, least, greatest string) bool {
	number := func(s string) *big.Int {
		n, _ := new(big.Int).SetString(s, 10)
		return n
	}
	return number(least).Cmp(number(s)) <= 0 && number(s).Cmp(number(greatest)) <= 0
}
