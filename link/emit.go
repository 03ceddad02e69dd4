package link

import (
	"bytes"

	"rookery/api"
)

// outbox holds what is emitted and not fetched yet.
type outbox struct{ packets []api.Packet }

// behind puts p behind the others, if there is room; with bytes of its own,
// since a signal may be emitted again, and stays in the queue.
func (o *outbox) behind(p api.Packet) {
	if len(o.packets) >= api.MaxFlight {
		return
	}
	p.Body = bytes.Clone(p.Body)
	o.packets = append(o.packets, p)
}

func (o *outbox) fetch() []api.Packet {
	out := o.packets
	o.packets = nil
	return out
}

func (l *Link) hello() api.Packet {
	p := api.Packet{Kind: api.PHello, Mine: l.own.token}
	if l.known {
		p.Boot, p.Yours = l.newest.boot, l.newest.token
	}
	if l.phase == api.Up {
		p.Seq = 1
	}
	return p
}

// word: a packet of an end that is up, with the fields that all but a Hello
// have.
func (l *Link) word(kind int) api.Packet {
	return api.Packet{Kind: kind, Mine: l.own.token, Boot: l.newest.boot, Yours: l.newest.token, Ack: l.expected}
}

// each tells put the Data of those that are sent, from the i-th on.
func (l *Link) each(i int, put func(api.Packet)) {
	for ; i < l.sent(); i++ {
		p := l.word(api.PData)
		p.Seq = l.base + uint32(i)
		p.Body = l.queue[i]
		put(p)
	}
}
