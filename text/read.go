package text

import (
	"math"
	"strconv"
	"strings"

	"rookery/api"
	"rookery/term"
)

// maxDigits is as many as the greatest number of 64 bits has.
const maxDigits = 20

// fault is what the reader throws: what is wrong, and where.
type fault struct {
	at int
	e  api.Errno
}

// reader goes through s once; size is that of what was read so far.
type reader struct {
	s    string
	at   int
	size int
}

func (r *reader) whole() api.Term {
	t := r.part(1)
	if r.at < len(r.s) {
		panic(fault{r.at, api.ErrTextMore})
	}
	return t
}

// peek: the end is told as a byte 0, which can stand nowhere in a text.
func (r *reader) peek() byte {
	if r.at == len(r.s) {
		return 0
	}
	return r.s[r.at]
}

// misplaced: the byte that is to be read, or the end, can't stand there.
func (r *reader) misplaced() fault { return fault{r.at, api.ErrTextForm} }

// part: what is wrong with a part's value is told at its first byte, as soon
// as its text is whole, ahead of looking at what stands behind it.
func (r *reader) part(deep int) api.Term {
	start := r.at
	r.begin(deep)
	switch r.peek() {
	case '{':
		return api.Term{Kind: api.KTuple, L: r.elements('}', deep)}
	case '[':
		return api.Term{Kind: api.KList, L: r.elements(']', deep)}
	case '"':
		return api.Term{Kind: api.KBytes, B: r.quoted()}
	}
	t := r.single()
	if term.Check(t) != api.OK {
		panic(fault{start, api.ErrTextForm})
	}
	return t
}

// begin: limits are told where a part is to begin, whatever stands there.
func (r *reader) begin(deep int) {
	if deep > api.MaxDeep {
		panic(fault{r.at, api.ErrTermDeep})
	}
	r.size++
	if r.size > api.MaxSize {
		panic(fault{r.at, api.ErrTermSize})
	}
}

func (r *reader) elements(end byte, deep int) []api.Term {
	r.at++
	if r.peek() == end {
		r.at++
		return nil
	}
	var l []api.Term
	for {
		l = append(l, r.part(deep+1))
		switch {
		case r.peek() == end:
			r.at++
			return l
		case r.peek() != ',':
			panic(r.misplaced())
		case len(l) == api.MaxWide:
			panic(fault{r.at, api.ErrTermWide})
		}
		r.at++
	}
}

func (r *reader) quoted() []byte {
	start := r.at
	r.at++
	var b []byte
	for r.peek() != '"' {
		b = append(b, r.oneByte())
	}
	r.at++
	r.size += len(b)
	if r.size > api.MaxSize {
		panic(fault{start, api.ErrTermSize})
	}
	return b
}

func (r *reader) oneByte() byte {
	c := r.peek()
	if !shown(c) {
		panic(r.misplaced())
	}
	r.at++
	if c == '\\' {
		return r.escaped()
	}
	return c
}

func (r *reader) escaped() byte {
	c := r.peek()
	switch c {
	case '"', '\\':
		r.at++
		return c
	case 'x':
		r.at++
		return r.coded()
	}
	panic(r.misplaced())
}

// coded: bytes that are shown lie side by side, so a first digit has others
// behind it just if the least or the greatest byte that it begins is not shown.
func (r *reader) coded() byte {
	high := r.digit16() << 4
	if shown(high) && shown(high|15) {
		panic(r.misplaced())
	}
	r.at++
	c := high | r.digit16()
	if shown(c) {
		panic(r.misplaced())
	}
	r.at++
	return c
}

// digit16: the value of the digit that is to be read; it is not passed, since
// it may have to be refused yet.
func (r *reader) digit16() byte {
	v := strings.IndexByte(digits16, r.peek())
	if v < 0 {
		panic(r.misplaced())
	}
	return byte(v)
}

// single: a part that is neither a list, a tuple nor bytes; its value may be
// one that no right term has.
func (r *reader) single() api.Term {
	switch c := r.peek(); {
	case c == '-' || digit(c):
		return term.Int(r.integer())
	case lower(c):
		return term.Atom(r.name())
	case c == '#':
		r.at++
		return r.marked()
	}
	panic(r.misplaced())
}

func (r *reader) marked() api.Term {
	switch r.peek() {
	case 'c':
		r.at++
		return api.Term{Kind: api.KCx, Z: r.cx()}
	case 'r':
		r.at++
		return term.Ref(r.id())
	case 'p':
		r.at++
		return term.Pid(r.id())
	}
	panic(r.misplaced())
}

// integer: of what 64 bits can't hold the library tells the nearest number that
// they can, which is out of an int's range as well.
func (r *reader) integer() int64 {
	start := r.at
	if r.peek() == '-' {
		r.at++
		if r.peek() == '0' {
			panic(r.misplaced())
		}
	}
	r.digits()
	n, _ := strconv.ParseInt(r.s[start:r.at], 10, 64)
	return n
}

func (r *reader) digits() string {
	start := r.at
	if !digit(r.peek()) {
		panic(r.misplaced())
	}
	if r.peek() == '0' {
		r.at++
		return "0"
	}
	for digit(r.peek()) {
		if r.at-start == maxDigits {
			panic(r.misplaced())
		}
		r.at++
	}
	return r.s[start:r.at]
}

// name: a copy, since the answer must not keep the text that was handed in.
func (r *reader) name() string {
	start := r.at
	for inName(r.peek()) {
		r.at++
	}
	return strings.Clone(r.s[start:r.at])
}

func (r *reader) cx() complex128 {
	p := r.bits()
	q := r.bits()
	return complex(p, q)
}

func (r *reader) bits() float64 {
	var bits uint64
	for range 16 {
		bits = bits<<4 | uint64(r.digit16())
		r.at++
	}
	return math.Float64frombits(bits)
}

func (r *reader) id() api.Id {
	node := fit(r.digits(), 31)
	r.point()
	boot := fit(r.digits(), 32)
	r.point()
	n := fit(r.digits(), 64)
	return api.Id{Node: int(node), Boot: uint32(boot), N: n}
}

func (r *reader) point() {
	if r.peek() != '.' {
		panic(r.misplaced())
	}
	r.at++
}

// fit: 0, which no field of an id may be, where so many bits can't hold it.
func fit(digits string, bits int) uint64 {
	n, err := strconv.ParseUint(digits, 10, bits)
	if err != nil {
		return 0
	}
	return n
}
