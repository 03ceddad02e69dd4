package peer

import (
	"rookery/api"
	"rookery/link"
)

// other is another node, as this one knows it.
type other struct {
	end   *link.Link
	quiet int
	echo  uint32
}

// opened: a peer whose link was opened; boot, this node's, is not 0.
func opened(boot uint32) *other {
	end, _ := link.New(boot)
	end.Open()
	return &other{end: end}
}

func (q *other) isUp() bool { return q.end.Phase() == api.Up }

// each goes over the peers by rising numbers.
func (p *Peers) each(yield func(int, *other) bool) {
	for i := range p.nodes {
		node := i + 1
		if q := p.others[node]; q != nil && !yield(node, q) {
			return
		}
	}
}

// watch: a link that is quiet for too long is cut.
func (p *Peers) watch(node int, q *other) {
	if !q.isUp() {
		return
	}
	q.quiet++
	if q.quiet > api.MaxQuiet {
		p.cut(node, q)
	}
}

// cut: behind its last token an end can't be opened, and stays shut.
func (p *Peers) cut(node int, q *other) {
	if q.end.Shut() {
		p.fell(node)
	}
	q.end.Open()
}

func (p *Peers) fell(node int) {
	p.tell(node, false)
	p.chart.Forget(node)
}

func (p *Peers) tell(node int, up bool) {
	p.events = append(p.events, api.Event{Node: node, Up: up})
}

// took: what the end made of a packet.
func (p *Peers) took(node int, q *other, got link.Taken) {
	if got.Heard {
		q.quiet = 0
	}
	if got.Down {
		p.fell(node)
	}
	if got.Up {
		p.tell(node, true)
		q.echo = 0
	}
}

// heardBeat: without a round trip that is to be believed the chart hears
// nothing.
func (p *Peers) heardBeat(node int, q *other, beat api.Packet) {
	q.echo = beat.Stamp
	if t, ok := p.trip(beat.Echo); ok {
		p.chart.Hear(node, beat.Z, t)
	}
}
