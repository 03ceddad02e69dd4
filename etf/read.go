package etf

import (
	"bytes"
	"math"

	"rookery/api"
	"rookery/atom"
	"rookery/term"
)

const (
	low7 = 127 // the bits of a V's byte that are the number's
	more = 128 // the one that says that another byte is behind it
	maxV = 10  // bytes
)

// reader goes through bytes once; what is wrong with them it throws, as an
// Errno. size is that of what was read so far, names are those that came.
type reader struct {
	left  []byte
	size  int
	names *atom.Table
}

// nest is a tuple or a list that is to have so many elements.
type nest struct {
	t    api.Term
	want int
}

// whole: nests stand in a list, the innermost last, and not in calls of this
// function by itself: a part that is done is an element of the last one.
func (r *reader) whole() api.Term {
	var t api.Term
	var open []nest
	var last *nest
begin:
	r.begin(len(open) + 1)
	t = api.Term{Kind: int(r.one())}
	switch t.Kind {
	case api.KInt:
		t.N = unfolded(r.number())
		goto value
	case api.KCx:
		t.Z = r.cx()
		goto value
	case api.KAtom:
		t.S = r.name()
		goto done
	case api.KRef, api.KPid:
		t.Id = r.id()
		goto value
	case api.KTuple, api.KList:
		open = append(open, nest{t, r.elements()})
		goto next
	case api.KBytes:
		t.B = r.raw()
		goto done
	}
	panic(api.ErrEtfForm)
value:
	if term.Check(t) != api.OK {
		panic(api.ErrEtfForm)
	}
done:
	if len(open) == 0 {
		goto end
	}
	last = &open[len(open)-1]
	last.t.L = append(last.t.L, t)
next:
	last = &open[len(open)-1]
	if len(last.t.L) < last.want {
		goto begin
	}
	t, open = last.t, open[:len(open)-1]
	goto done
end:
	if len(r.left) > 0 {
		panic(api.ErrEtfMore)
	}
	return t
}

// begin: limits are told where a part is to begin, whether bytes are left or not.
func (r *reader) begin(deep int) {
	if deep > api.MaxDeep {
		panic(api.ErrTermDeep)
	}
	r.size++
	if r.size > api.MaxSize {
		panic(api.ErrTermSize)
	}
}

// take: so many bytes, which are those that were handed in.
func (r *reader) take(n int) []byte {
	if n > len(r.left) {
		panic(api.ErrEtfShort)
	}
	b := r.left[:n]
	r.left = r.left[n:]
	return b
}

func (r *reader) one() byte { return r.take(1)[0] }

// number: a V. The tenth byte holds the last of 64 bits, and none is behind it.
func (r *reader) number() uint64 {
	var n uint64
	for i := range maxV {
		c := r.one()
		if i == maxV-1 && c > 1 || i > 0 && c == 0 {
			panic(api.ErrEtfForm)
		}
		n |= uint64(c&low7) << (7 * i)
		if c&more == 0 {
			break
		}
	}
	return n
}

// cx: both parts are asked for ahead of looking whether they are a number's.
func (r *reader) cx() complex128 {
	p := r.bits()
	q := r.bits()
	return complex(p, q)
}

func (r *reader) bits() float64 {
	var n uint64
	for _, c := range r.take(8) {
		n = n<<8 | uint64(c)
	}
	return math.Float64frombits(n)
}

func (r *reader) name() string {
	n, next := r.number(), uint64(r.names.Len())
	if n > next {
		panic(api.ErrEtfForm)
	}
	if n == next {
		r.newName()
	}
	s, _ := r.names.Name(int(n))
	return s
}

func (r *reader) newName() {
	n := int(r.one())
	if n < 1 || n > api.MaxAtom {
		panic(api.ErrEtfForm)
	}
	s := string(r.take(n))
	if _, came := r.names.Find(s); came {
		panic(api.ErrEtfForm)
	}
	if _, e := r.names.Put(s); e != api.OK {
		panic(api.ErrEtfForm)
	}
}

// id: a Boot that no Id can hold is refused where it stands; whether the id may
// be, is asked when it is whole.
func (r *reader) id() api.Id {
	node := r.one()
	boot := r.number()
	if boot > math.MaxUint32 {
		panic(api.ErrEtfForm)
	}
	return api.Id{Node: int(node), Boot: uint32(boot), N: r.number()}
}

func (r *reader) elements() int {
	n := r.number()
	if n > api.MaxWide {
		panic(api.ErrEtfForm)
	}
	return int(n)
}

// raw: a copy, since the answer must not share the bytes that were handed in.
func (r *reader) raw() []byte {
	n := r.number()
	if n > uint64(api.MaxSize-r.size) {
		panic(api.ErrTermSize)
	}
	r.size += int(n)
	return bytes.Clone(r.take(int(n)))
}
