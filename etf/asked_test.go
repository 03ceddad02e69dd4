package etf_test

import (
	"math"
	"math/big"
	"regexp"
	"slices"
	"strings"

	"rookery/api"
)

// What Encode and Decode must answer, worked out apart from them: a V by numbers
// of any size, names by looking through those that came, parts by calls of parts,
// what is wrong by what is answered.

var aName = regexp.MustCompile(`^[a-z][a-zA-Z0-9_]*$`)

func big128() *big.Int { return big.NewInt(128) }

// v: the bytes of a number of any width.
func v(n uint64) string {
	var out []byte
	left, digit := new(big.Int).SetUint64(n), new(big.Int)
	for {
		left.DivMod(left, big128(), digit)
		if left.Sign() == 0 {
			return string(append(out, byte(digit.Uint64())))
		}
		out = append(out, byte(digit.Uint64()+128))
	}
}

// askedBytes: the bytes of a right term; came: the names ahead of it.
func askedBytes(x api.Term, came *[]string) string {
	out := string([]byte{byte(x.Kind)})
	switch x.Kind {
	case api.KInt:
		n := new(big.Int).Mul(big.NewInt(2), big.NewInt(x.N))
		if x.N < 0 {
			n.Neg(n).Sub(n, big.NewInt(1))
		}
		return out + v(n.Uint64())
	case api.KCx:
		for _, part := range []float64{real(x.Z), imag(x.Z)} {
			var b [8]byte
			new(big.Int).SetUint64(math.Float64bits(part)).FillBytes(b[:])
			out += string(b[:])
		}
		return out
	case api.KAtom:
		if i := slices.Index(*came, x.S); i >= 0 {
			return out + v(uint64(i))
		}
		*came = append(*came, x.S)
		return out + v(uint64(len(*came)-1)) + string([]byte{byte(len(x.S))}) + x.S
	case api.KRef, api.KPid:
		return out + string([]byte{byte(x.Id.Node)}) + v(uint64(x.Id.Boot)) + v(x.Id.N)
	case api.KBytes:
		return out + v(uint64(len(x.B))) + string(x.B)
	}
	var l []string
	for _, e := range x.L {
		l = append(l, askedBytes(e, came))
	}
	return out + v(uint64(len(x.L))) + strings.Join(l, "")
}

// askedEncode: of a right term.
func askedEncode(x api.Term) string { return "E" + askedBytes(x, new([]string)) }

// state is how far some bytes are gone through.
type state struct {
	s    string
	at   int
	size int
	came []string
}

// asked: the term, or the error.
func asked(s string) (api.Term, api.Errno) {
	switch {
	case len(s) > 131072:
		return api.Term{}, api.ErrEtfLong
	case s == "":
		return api.Term{}, api.ErrEtfShort
	case s[0] != 'E':
		return api.Term{}, api.ErrEtfMark
	}
	a := &state{s: s, at: 1}
	x, e := a.part(1)
	if e == api.OK && a.at < len(s) {
		e = api.ErrEtfMore
	}
	if e != api.OK {
		return api.Term{}, e
	}
	return x, api.OK
}

func (a *state) some(n int) (string, api.Errno) {
	if len(a.s)-a.at < n {
		return "", api.ErrEtfShort
	}
	a.at += n
	return a.s[a.at-n : a.at], api.OK
}

// wide: a V, by where the first byte without 128 stands.
func (a *state) wide() (uint64, api.Errno) {
	left := []byte(a.s[a.at:min(a.at+10, len(a.s))])
	end := slices.IndexFunc(left, func(c byte) bool { return c < 128 })
	switch {
	case end < 0 && len(left) < 10:
		return 0, api.ErrEtfShort
	case end < 0:
		return 0, api.ErrEtfForm
	}
	n := new(big.Int)
	for i := end; i >= 0; i-- {
		n.Mul(n, big128()).Add(n, big.NewInt(int64(left[i]%128)))
	}
	if !n.IsUint64() || left[end] == 0 && end > 0 {
		return 0, api.ErrEtfForm
	}
	a.at += end + 1
	return n.Uint64(), api.OK
}

func (a *state) part(deep int) (x api.Term, e api.Errno) {
	a.size++
	if deep > 24 {
		return x, api.ErrTermDeep
	}
	if a.size > 4096 {
		return x, api.ErrTermSize
	}
	kind, e := a.some(1)
	if e != api.OK {
		return x, e
	}
	x.Kind = int(kind[0])
	switch x.Kind {
	case 1:
		x.N, e = a.integer()
	case 2:
		x.Z, e = a.cx()
	case 3:
		x.S, e = a.name()
	case 4, 5:
		x.Id, e = a.id()
	case 6, 7:
		x.L, e = a.elements(deep)
	case 8:
		x.B, e = a.raw()
	default:
		e = api.ErrEtfForm
	}
	return x, e
}

func (a *state) integer() (int64, api.Errno) {
	u, e := a.wide()
	n := new(big.Int).SetUint64(u)
	if n.Bit(0) == 1 {
		n.Add(n, big.NewInt(1)).Neg(n)
	}
	n.Quo(n, big.NewInt(2))
	if e == api.OK && (n.Cmp(big.NewInt(-1<<62)) < 0 || n.Cmp(big.NewInt(1<<62-1)) > 0) {
		e = api.ErrEtfForm
	}
	return n.Int64(), e
}

func (a *state) cx() (complex128, api.Errno) {
	s, e := a.some(16)
	if e != api.OK {
		return 0, e
	}
	p, pOk := askedFloat(s[:8])
	q, qOk := askedFloat(s[8:])
	if !pOk || !qOk {
		return 0, api.ErrEtfForm
	}
	return complex(p, q), api.OK
}

// askedFloat: the number that the bits of eight bytes are, if it is a part's.
func askedFloat(s string) (float64, bool) {
	n := new(big.Int).SetBytes([]byte(s)).Uint64()
	exponent, rest := int(n>>52&0x7ff), float64(n&(1<<52-1))
	if exponent == 0x7ff || n == 1<<63 {
		return 0, false
	}
	if exponent == 0 {
		exponent = 1
	} else {
		rest += 1 << 52
	}
	x, _ := new(big.Float).SetMantExp(big.NewFloat(rest), exponent-1075).Float64()
	if n>>63 == 1 {
		x = -x
	}
	return x, true
}

func (a *state) name() (string, api.Errno) {
	n, e := a.wide()
	switch {
	case e != api.OK:
		return "", e
	case n > uint64(len(a.came)):
		return "", api.ErrEtfForm
	case n < uint64(len(a.came)):
		return a.came[n], api.OK
	}
	long, e := a.some(1)
	if e != api.OK {
		return "", e
	}
	if long[0] == 0 || long[0] > 32 {
		return "", api.ErrEtfForm
	}
	s, e := a.some(int(long[0]))
	if e != api.OK {
		return "", e
	}
	if !aName.MatchString(s) || slices.Contains(a.came, s) {
		return "", api.ErrEtfForm
	}
	a.came = append(a.came, s)
	return s, api.OK
}

func (a *state) id() (api.Id, api.Errno) {
	node, e := a.some(1)
	if e != api.OK {
		return api.Id{}, e
	}
	boot, e := a.wide()
	if e != api.OK {
		return api.Id{}, e
	}
	if boot > 4294967295 {
		return api.Id{}, api.ErrEtfForm
	}
	n, e := a.wide()
	if e != api.OK {
		return api.Id{}, e
	}
	if node[0] < 1 || node[0] > 64 || boot == 0 || n == 0 {
		return api.Id{}, api.ErrEtfForm
	}
	return api.Id{Node: int(node[0]), Boot: uint32(boot), N: n}, api.OK
}

func (a *state) elements(deep int) ([]api.Term, api.Errno) {
	n, e := a.wide()
	if e != api.OK {
		return nil, e
	}
	if n > 256 {
		return nil, api.ErrEtfForm
	}
	var l []api.Term
	for range n {
		x, e := a.part(deep + 1)
		if e != api.OK {
			return nil, e
		}
		l = append(l, x)
	}
	return l, api.OK
}

func (a *state) raw() ([]byte, api.Errno) {
	n, e := a.wide()
	if e != api.OK {
		return nil, e
	}
	if sum := new(big.Int).SetUint64(n); sum.Add(sum, big.NewInt(int64(a.size))).Cmp(big.NewInt(4096)) > 0 {
		return nil, api.ErrTermSize
	}
	a.size += int(n)
	s, e := a.some(int(n))
	return []byte(s), e
}
