package serial

// round: numbers of one width, behind whose greatest one 0 comes again.
type round interface {
	uint8 | uint16 | uint32 | uint64
}

// steps: how many steps of one lead from a number to another. The difference
// wraps round where the numbers do, so that no width needs a case of its own.
func steps[N round](from, to N) N { return to - from }
