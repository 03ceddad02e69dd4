package pair

import (
	"slices"

	"rookery/api"
)

// flying is a packet in flight.
type flying struct {
	to     int
	boot   uint32 // its sender's, which may be over by now
	packet api.Packet
}

// acts: what is done, by an act's kind.
func acts() [Twin + 1]func(*Pair, Act) api.Errno {
	return [...]func(*Pair, Act) api.Errno{
		Open:    (*Pair).open,
		Shut:    (*Pair).shut,
		Send:    (*Pair).send,
		Tick:    (*Pair).tick,
		Boot:    (*Pair).boot,
		Deliver: (*Pair).deliver,
		Drop:    (*Pair).drop,
		Twin:    (*Pair).twin,
	}
}

func (p *Pair) has(side int) bool { return p != nil && 0 <= side && side < len(p.sides) }

// refuses: why an act can't be done, whatever the ends would say of it.
func (p *Pair) refuses(a Act) api.Errno {
	switch a.Kind {
	case Open, Shut, Send, Tick, Boot:
		if !p.has(a.Side) {
			return api.ErrPairSide
		}
	case Deliver, Drop, Twin:
		if a.I < 0 || a.I >= len(p.flight) {
			return api.ErrPairNone
		}
	default:
		return api.ErrPairAct
	}
	return api.OK
}

func (p *Pair) open(a Act) api.Errno { return p.sides[a.Side].end.Open() }

func (p *Pair) shut(a Act) api.Errno {
	p.sides[a.Side].shut()
	return api.OK
}

func (p *Pair) send(a Act) api.Errno { return p.sides[a.Side].send(a.Body) }

func (p *Pair) tick(a Act) api.Errno {
	p.sides[a.Side].end.Tick()
	return api.OK
}

func (p *Pair) boot(a Act) api.Errno { return p.sides[a.Side].reboot() }

func (p *Pair) deliver(a Act) api.Errno {
	f := p.flight[a.I]
	p.drop(a)
	return p.sides[f.to].take(f.boot, f.packet)
}

func (p *Pair) drop(a Act) api.Errno {
	p.flight = slices.Delete(p.flight, a.I, a.I+1)
	return api.OK
}

func (p *Pair) twin(a Act) api.Errno {
	p.start(p.flight[a.I])
	return api.OK
}

// start puts f behind those in flight, if there is room. (Twins share bytes:
// nothing writes into those of a packet in flight.)
func (p *Pair) start(f flying) {
	if len(p.flight) < api.MaxFlight {
		p.flight = append(p.flight, f)
	}
}

// fetch: what the ends have emitted is in flight.
func (p *Pair) fetch() {
	for s := range len(p.sides) {
		from := &p.sides[s]
		for _, q := range from.end.Out() {
			p.start(flying{to: 1 - s, boot: from.boot, packet: q})
		}
	}
}
