package dgram

import "rookery/api"

func (n *Net) has(node int) bool { return 1 <= node && node <= n.nodes }

// refuses: why nothing can be done with the i-th in flight.
func (n *Net) refuses(i int) api.Errno {
	if n == nil {
		return api.ErrNil
	}
	if i < 0 || i >= len(n.flight) {
		return api.ErrDgramNone
	}
	return api.OK
}

// start puts one like d behind those in flight, if there is room.
func (n *Net) start(d api.Datagram) {
	if len(n.flight) >= api.MaxFlight {
		n.lost++
		return
	}
	n.flight = append(n.flight, another(d))
}

// come puts d into the box that it is for, if there is room.
func (n *Net) come(d api.Datagram) {
	box := n.boxes[d.To]
	if len(box) >= api.MaxInbox {
		n.lost++
		return
	}
	n.boxes[d.To] = append(box, d)
}

// another: a datagram like d, with bytes of its own.
func another(d api.Datagram) api.Datagram {
	b := make([]byte, len(d.B))
	copy(b, d.B)
	d.B = b
	return d
}

// without moves those behind the i-th one place ahead.
func without(l []api.Datagram, i int) []api.Datagram {
	last := len(l) - 1
	copy(l[i:], l[i+1:])
	// What stays in the spare room would keep a datagram's bytes alive.
	l[last] = api.Datagram{}
	return l[:last]
}

// turn changes up to four bytes of b by those of mask, the highest first.
func turn(b []byte, mask uint32) {
	for k := range min(4, len(b)) {
		b[k] ^= byte(mask >> (24 - 8*k))
	}
}
