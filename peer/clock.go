package peer

// longest: the round trip, in ticks, beyond which none is believed.
const longest = 1 << 20

// clock counts ticks; behind the greatest number it begins anew.
type clock struct{ now uint32 }

func (c *clock) step() { c.now++ }

// trip: how many ticks ago this node told the stamp that an echo brings back,
// if it is to be believed. (An echo of 0 brings none back.)
func (c *clock) trip(echo uint32) (int, bool) {
	t := c.now - echo
	if echo == 0 || t > longest {
		return 0, false
	}
	return int(t), true
}
