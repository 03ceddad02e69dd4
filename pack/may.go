package pack

import (
	"rookery/api"
	"rookery/num"
)

// mayBe goes from what a kind alone asks of its fields down to what all ask.
func mayBe(p api.Packet) bool {
	switch p.Kind {
	case api.PBeat:
		if !num.Right(api.Term{Kind: api.KCx, Z: p.Z}) {
			return false
		}
		fallthrough
	case api.PAck, api.PData:
		if p.Boot == 0 || p.Yours == 0 {
			return false
		}
		fallthrough
	default:
		return p.Mine > 0 && (p.Boot == 0) == (p.Yours == 0) && keepsRow(p)
	}
}

// keepsRow: is all as its kind's row says, and zero what the row does not name?
func keepsRow(p api.Packet) bool {
	if p.Z == 0 {
		p.Z = 0 // a part that is -0 is zero too, but its bits are not
	}
	for i, n := range numbersOf(p) {
		if rows[p.Kind].widths[i] == 0 && n != 0 {
			return false
		}
	}
	return p.Seq <= rows[p.Kind].seq && rows[p.Kind].least <= len(p.Body) && len(p.Body) <= rows[p.Kind].most
}
