package code

import (
	"rookery/api"
	"rookery/check"
)

// What A is.
const (
	number   = iota // from least to most; both are 0 where A is not named
	slot            // one of the function's
	place           // an instruction
	function        // one whose Arity is B
)

// What T is.
const (
	nothing = iota
	rightTerm
	slotPattern
)

// What may be next; 0: nothing is.
const (
	behind = 1 << iota
	atA
)

// How many values are taken, where that is told by a field.
const (
	takesA = -1 - iota
	takesB
	takesArguments
)

// row: which fields an Op has, how many values it takes and puts, and what may
// be next.
type row struct {
	a, least, most int
	t              int
	takes          int
	puts           int
	putsAtA        int // what is put where A is next
	next           int
}

// ops: by the numbers of the Ops.
var ops = [...]row{
	api.OPush:  {t: rightTerm, puts: 1, next: behind},
	api.OLoad:  {a: slot, puts: 1, next: behind},
	api.OPop:   {takes: 1, next: behind},
	api.OTuple: {most: api.MaxWide, takes: takesA, puts: 1, next: behind},
	api.OList:  {most: api.MaxWide, takes: takesA, puts: 1, next: behind},
	api.OBin:   {least: 1, most: 11, takes: 2, puts: 1, next: behind},
	api.ONeg:   {takes: 1, puts: 1, next: behind},
	api.OMatch: {a: place, t: slotPattern, takes: 1, puts: 1, putsAtA: 1, next: behind | atA},
	api.OJump:  {a: place, next: atA},
	api.OCall:  {a: function, takes: takesB, puts: 1, next: behind},
	api.OTail:  {a: function, takes: takesB},
	api.ORet:   {takes: 1},
	api.OBif:   {least: 1, most: 26, takes: takesArguments, puts: 1, next: behind},
	api.OSend:  {takes: 2, puts: 1, next: behind},
	api.OFail:  {least: 1, most: 3, takes: 1},
	api.OTimer: {takes: 1, next: behind},
	api.OPeek:  {a: place, puts: 1, next: behind | atA},
	api.ONext:  {takes: 1, next: behind},
	api.OTake:  {takes: 1, next: behind},
}

// taken: how many values an instruction takes.
func taken(in *api.Ins) int {
	switch n := ops[in.Op].takes; n {
	case takesA:
		return in.A
	case takesB:
		return in.B
	case takesArguments:
		return check.Arity(in.A)
	default:
		return n
	}
}
