package pair

import "rookery/link"

// SkipTo: a side is in that life, shut. (By Boot the way to the last one is too
// long for a test.)
func (p *Pair) SkipTo(side int, boot uint32) { p.sides[side].begin(boot) }

// End: a side's end itself. (An act lets one end alone emit something.)
func (p *Pair) End(side int) *link.Link { return p.sides[side].end }

// Saw: a packet came of which that came. (None makes an end go down and up at
// once.)
func (p *Pair) Saw(side int, t link.Taken) {
	h := &p.sides[side]
	h.saw(h.entry(EntDown), t)
}
