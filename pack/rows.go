package pack

import (
	"math"

	"rookery/api"
)

// numbers: how many a packet has beside its Kind; numbersOf tells their order,
// which is that of their bytes in every kind.
const numbers = 9

// row: how a kind is laid and read.
type row struct {
	widths      [numbers]int // how many bytes each number has; 0: the kind does not name it
	seq         uint32       // the greatest Seq
	least, most int          // how many bytes Body has
}

var rows = [...]row{
	api.PHello: {widths: [numbers]int{4, 4, 4, 1}, seq: 1},
	api.PData:  {widths: [numbers]int{4, 4, 4, 4, 4}, seq: math.MaxUint32, least: 1, most: api.MaxSignal},
	api.PAck:   {widths: [numbers]int{4, 4, 4, 0, 4}},
	api.PBeat:  {widths: [numbers]int{4, 4, 4, 0, 4, 4, 4, 8, 8}},
}

func isKind(kind int) bool { return api.PHello <= kind && kind <= api.PBeat }

func numbersOf(p api.Packet) [numbers]uint64 {
	return [numbers]uint64{
		uint64(p.Mine), uint64(p.Boot), uint64(p.Yours), uint64(p.Seq), uint64(p.Ack), uint64(p.Stamp), uint64(p.Echo),
		math.Float64bits(real(p.Z)), math.Float64bits(imag(p.Z)),
	}
}

func packetOf(kind int, n [numbers]uint64, body []byte) api.Packet {
	return api.Packet{
		Kind:  kind,
		Mine:  uint32(n[0]),
		Boot:  uint32(n[1]),
		Yours: uint32(n[2]),
		Seq:   uint32(n[3]),
		Ack:   uint32(n[4]),
		Stamp: uint32(n[5]),
		Echo:  uint32(n[6]),
		Z:     complex(math.Float64frombits(n[7]), math.Float64frombits(n[8])),
		Body:  body,
	}
}

// ahead: how many bytes a kind has ahead of Body.
func ahead(kind int) int {
	n := 1
	for _, w := range rows[kind].widths {
		n += w
	}
	return n
}

// wrongLength: why no packet can be read out of b.
func wrongLength(b []byte) api.Errno {
	if len(b) == 0 {
		return api.ErrPackShort
	}
	kind := int(b[0])
	switch {
	case !isKind(kind):
		return api.ErrPackKind
	case len(b) < ahead(kind)+rows[kind].least:
		return api.ErrPackShort
	case len(b) > ahead(kind)+rows[kind].most:
		return api.ErrPackLong
	}
	return api.OK
}

// laid: the bytes of a packet that may be.
func laid(p api.Packet) []byte {
	b := make([]byte, 0, ahead(p.Kind)+len(p.Body))
	b = append(b, byte(p.Kind))
	n := numbersOf(p)
	for i, w := range rows[p.Kind].widths {
		b = highestFirst(b, n[i], w)
	}
	return append(b, p.Body...)
}

// said: the packet that bytes of a right length say, whether it may be or not.
func said(b []byte) api.Packet {
	kind := int(b[0])
	rest := b[1:]
	var n [numbers]uint64
	for i, w := range rows[kind].widths {
		n[i] = joined(rest[:w])
		rest = rest[w:]
	}
	return packetOf(kind, n, append([]byte(nil), rest...))
}

// highestFirst: b, and behind it n in so many bytes.
func highestFirst(b []byte, n uint64, width int) []byte {
	for i := range width {
		b = append(b, byte(n>>(8*(width-1-i))))
	}
	return b
}

// joined: the number whose bytes are b, the highest first.
func joined(b []byte) uint64 {
	n := uint64(0)
	for _, x := range b {
		n = n<<8 | uint64(x)
	}
	return n
}
