package text

import (
	"math"
	"strconv"

	"rookery/api"
)

// put: b and behind it the text of t, which is right: else it might not end.
func put(b []byte, t api.Term) []byte {
	switch t.Kind {
	case api.KInt:
		return strconv.AppendInt(b, t.N, 10)
	case api.KCx:
		return putBits(putBits(append(b, "#c"...), real(t.Z)), imag(t.Z))
	case api.KAtom:
		return append(b, t.S...)
	case api.KRef:
		return putId(append(b, "#r"...), t.Id)
	case api.KPid:
		return putId(append(b, "#p"...), t.Id)
	case api.KTuple:
		return append(putElements(append(b, '{'), t.L), '}')
	case api.KList:
		return append(putElements(append(b, '['), t.L), ']')
	}
	return append(putBytes(append(b, '"'), t.B), '"')
}

func putBits(b []byte, x float64) []byte {
	bits := math.Float64bits(x)
	for shift := 60; shift >= 0; shift -= 4 {
		b = append(b, digits16[bits>>shift&15])
	}
	return b
}

func putId(b []byte, id api.Id) []byte {
	b = strconv.AppendInt(b, int64(id.Node), 10)
	b = strconv.AppendUint(append(b, '.'), uint64(id.Boot), 10)
	return strconv.AppendUint(append(b, '.'), id.N, 10)
}

func putElements(b []byte, l []api.Term) []byte {
	for i, t := range l {
		if i > 0 {
			b = append(b, ',')
		}
		b = put(b, t)
	}
	return b
}

func putBytes(b, given []byte) []byte {
	for _, c := range given {
		switch {
		case c == '"' || c == '\\':
			b = append(b, '\\', c)
		case shown(c):
			b = append(b, c)
		default:
			b = append(b, '\\', 'x', digits16[c>>4], digits16[c&15])
		}
	}
	return b
}
