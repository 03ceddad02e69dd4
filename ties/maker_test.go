package ties_test

import (
	"math"
	"math/rand"
	"slices"

	"rookery/api"
)

// maker makes terms and scripts out of a row of numbers that is the same in
// each run.
type maker struct{ *rand.Rand }

func newMaker(seed int64) maker { return maker{rand.New(rand.NewSource(seed))} }

func pick[T any](m maker, l ...T) T { return l[m.Intn(len(l))] }

// term: a right term, of few values.
func (m maker) term(deep int) api.Term {
	id := api.Id{Node: 1 + m.Intn(2), Boot: 1, N: 1 + uint64(m.Intn(2))}
	kind := 1 + m.Intn(8)
	if deep <= 1 && (kind == api.KTuple || kind == api.KList) {
		kind = api.KAtom
	}
	switch kind {
	case api.KInt:
		return api.Term{Kind: kind, N: int64(m.Intn(3))}
	case api.KCx:
		return cx(float64(m.Intn(2)), float64(m.Intn(2)))
	case api.KAtom:
		return read(pick(m, "a", "b", "hello"))
	case api.KRef, api.KPid:
		return api.Term{Kind: kind, Id: id}
	case api.KBytes:
		return api.Term{Kind: kind, B: []byte(pick(m, "", "x", "bytes"))}
	}
	out := api.Term{Kind: kind}
	for range m.Intn(4) {
		out.L = append(out.L, m.term(deep-1))
	}
	return out
}

// spoilt: t with a field of a part turned into something else, mostly wrong.
func (m maker) spoilt(t api.Term) api.Term {
	if len(t.L) > 0 && m.Intn(3) > 0 {
		t.L = slices.Clone(t.L)
		i := m.Intn(len(t.L))
		t.L[i] = m.spoilt(t.L[i])
		return t
	}
	switch m.Intn(8) {
	case 0:
		t.Kind = m.Intn(13) - 1
	case 1:
		t.N = pick[int64](m, 1, api.MinInt-1, api.MaxInt+1, math.MinInt64)
	case 2:
		t.Z = pick(m, 1, complex(math.NaN(), 0), complex(0, math.Inf(-1)), complex(math.Copysign(0, -1), 0))
	case 3:
		t.S = pick(m, "a", "A", "a b", "")
	case 4:
		t.Id = api.Id{Node: m.Intn(3) * 33, Boot: uint32(m.Intn(2)), N: uint64(m.Intn(2))}
	case 5:
		t.B = make([]byte, pick(m, 0, 1, 4094, 4095, 4096, 5000))
	case 6:
		t.L = slices.Repeat([]api.Term{m.term(1)}, pick(m, 0, 1, 256, 257))
	case 7:
		t = pick(m, read(deep("a", 24)), endless(), doubled(30), api.Term{})
	}
	return t
}

// id: one of few, so that the same one comes again; now and then one that may
// not be.
func (m maker) id() api.Id {
	id := api.Id{Node: 1 + m.Intn(3), Boot: 1 + uint32(m.Intn(2)), N: 1 + uint64(m.Intn(3))}
	if m.Intn(40) > 0 {
		return id
	}
	switch m.Intn(3) {
	case 0:
		id.Node = pick(m, 0, -1, 65, math.MaxInt, math.MinInt)
	case 1:
		id.Boot = 0
	case 2:
		id.N = 0
	}
	return id
}

// wide: an id of many.
func (m maker) wide() api.Id {
	return api.Id{Node: 1 + m.Intn(64), Boot: 1 + (m.Uint32()>>m.Intn(32))%math.MaxUint32, N: 1 + (m.Uint64()>>m.Intn(64))%math.MaxUint64}
}

// call: one of all, of which so many of ten make a tie.
func (m maker) call(makes int, id func() api.Id) call {
	c := call{name: pick(m, "unlink", "unlink", "unwatch", "unwatch", "unwatched", "unwatched", "unwatched", "links", "mine", "theirs"), ref: id(), other: id()}
	if m.Intn(10) < makes {
		c.name = pick(m, "link", "watch", "watched")
	}
	return c
}

// ending: End or Lost, of a node of which there may be some.
func (m maker) ending() call {
	if m.Intn(3) > 0 {
		return call{name: "lost", node: pick(m, 1, 1, 2, 2, 3, 3, 4, 64, 0, -1, 65)}
	}
	x := m.term(3)
	if m.Intn(4) == 0 {
		x = m.spoilt(x)
	}
	return call{name: "end", reason: x}
}
