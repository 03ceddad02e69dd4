package pair_test

import (
	"slices"
	"testing"

	"rookery/api"
	"rookery/pair"
)

var (
	endActs    = []int{pair.Open, pair.Shut, pair.Send, pair.Tick, pair.Boot}
	flightActs = []int{pair.Deliver, pair.Drop, pair.Twin}
)

func TestP12_1New(t *testing.T) {
	p := pair.New()
	wantWhole(t, "P12.1: New", p, whole{})
	for s := range 2 {
		wantErr(t, "P12.1: New", p, send(s, "x"), api.ErrLinkPhase)
	}
	must(t, "P12.1: New", p, at(pair.Boot, 0))
	wantLog(t, "P12.1: the boot is at first 1", p, 0, booted(2))
	wantLog(t, "P12.1: the boot is at first 1", p, 1)
}

func TestP12_1NoAct(t *testing.T) {
	for _, p := range []*pair.Pair{pair.New(), opening(t), queued(t, 0, 9)} {
		for _, kind := range []int{0, 9, 10, -1, -8, -1 << 63, 1<<63 - 1} {
			for _, n := range append(numbers, 0, 1, 2) {
				wantRefused(t, "P12.1: no act", p, pair.Act{Kind: kind, Side: n, I: n, Body: make([]byte, 1001)}, api.ErrPairAct)
				wantRefused(t, "P12.1: no act", p, pair.Act{Kind: kind, Side: 1, I: n}, api.ErrPairAct)
			}
		}
	}
}

// The side is told ahead of what the end would say: of its phase, of a Body
// that is too long.
func TestP12_1NoSide(t *testing.T) {
	for _, p := range []*pair.Pair{pair.New(), opening(t), queued(t, 0, 9)} {
		for _, kind := range endActs {
			for _, side := range append(numbers, 2) {
				wantRefused(t, "P12.1: no side", p, pair.Act{Kind: kind, Side: side, Body: []byte("x")}, api.ErrPairSide)
				wantRefused(t, "P12.1: no side", p, pair.Act{Kind: kind, Side: side, I: side, Body: make([]byte, 1001)}, api.ErrPairSide)
			}
		}
	}
}

func TestP12_1NoPacket(t *testing.T) {
	for _, n := range []int{0, 1, 2, 8, 1023, 1024} {
		p := queued(t, 1, min(n, 8))
		fill(t, p, n)
		for _, kind := range flightActs {
			for _, side := range []int{-1, 0, 1, 2} {
				for _, i := range append(slices.DeleteFunc(slices.Clone(numbers), func(i int) bool { return 0 <= i && i < n }), n, n+1) {
					wantErr(t, "P12.1: no packet", p, pair.Act{Kind: kind, Side: side, I: i, Body: []byte("x")}, api.ErrPairNone)
				}
				wantFlight(t, "P12.1: no packet", p, n)
			}
		}
		wantGot(t, "P12.1: no packet", p, 0)
	}
}

// The side plays no part where it is said of a packet in flight.
func TestP12_1AnySideOfAPacket(t *testing.T) {
	for _, from := range []int{0, 1} {
		for _, side := range append(numbers, 0, 1, 2) {
			p := queued(t, from, 3)
			must(t, "P12.1: any side", p, pair.Act{Kind: pair.Twin, Side: side, I: 1})
			wantFlight(t, "P12.1: Twin", p, 4)
			must(t, "P12.1: any side", p, pair.Act{Kind: pair.Drop, Side: side, I: 1})
			wantFlight(t, "P12.1: Drop", p, 3)
			for range 3 {
				must(t, "P12.1: any side", p, pair.Act{Kind: pair.Deliver, Side: side})
			}
			wantGot(t, "P12.1: the first, and the second's twin", p, 1-from, signal(0), signal(1))
			must(t, "P12.1: any side", p, pair.Act{Kind: pair.Drop, Side: side})
			must(t, "P12.1: Send", p, send(from, "x"))
			drain(t, p)
			wantGot(t, "P12.1: Deliver", p, from)
		}
	}
}

// The place plays no part where it is said of an end; nor does the Body but in
// Send.
func TestP12_1AnyPlaceOfAnEnd(t *testing.T) {
	for _, i := range append(numbers, 0, 1) {
		for s := range 2 {
			p := pair.New()
			must(t, "P12.1: Open", p, pair.Act{Kind: pair.Open, Side: s, I: i, Body: make([]byte, 1001)})
			wantPhase(t, "P12.1: Open", p, s, api.Opening)
			must(t, "P12.1: Tick", p, times(3, pair.Act{Kind: pair.Tick, Side: s, I: i, Body: make([]byte, 1001)})...)
			wantFlight(t, "P12.1: Tick", p, 2)
			must(t, "P12.1: Shut", p, pair.Act{Kind: pair.Shut, Side: s, I: i, Body: make([]byte, 1001)})
			wantPhase(t, "P12.1: Shut", p, s, api.Shut)
			must(t, "P12.1: Boot", p, pair.Act{Kind: pair.Boot, Side: s, I: i, Body: make([]byte, 1001)})
			wantLog(t, "P12.1: Boot", p, s, booted(2))
			p = up(t)
			must(t, "P12.1: Send", p, pair.Act{Kind: pair.Send, Side: s, I: i, Body: []byte("x")})
			wantFlight(t, "P12.1: Send", p, 1)
		}
	}
}

func TestP12_1Open(t *testing.T) {
	for s := range 2 {
		p := pair.New()
		must(t, "P12.1: Open of one in Shut", p, at(pair.Open, s))
		want := state{flight: 1}
		want.phases[s] = api.Opening
		wantState(t, "P12.1: Open of one in Shut", p, want)
		wantRefused(t, "P12.1: Open of one in Opening", p, at(pair.Open, s), api.ErrLinkPhase)
		wantRefused(t, "P12.1: Open of one in Up", queued(t, s, 3), at(pair.Open, s), api.ErrLinkPhase)
		must(t, "P12.1: Shut, and Open again", p, at(pair.Shut, s), at(pair.Open, s))
		want.flight = 2
		wantState(t, "P12.1: Open again", p, want)
		wantLog(t, "P12.2: Open writes nothing", p, s)
	}
}

func TestP12_1Shut(t *testing.T) {
	for s := range 2 {
		p := pair.New()
		must(t, "P12.1: Shut of one in Shut", p, at(pair.Shut, s))
		wantWhole(t, "P12.1: Shut of one in Shut", p, whole{})
		must(t, "P12.1: Open, Shut", p, at(pair.Open, s), at(pair.Shut, s))
		wantWhole(t, "P12.1: Shut of one in Opening", p, whole{state: state{flight: 1}})
		p = queued(t, s, 12)
		had := seenAll(p.Log(s))
		must(t, "P12.1: Shut of one in Up", p, at(pair.Shut, s))
		want := state{flight: 8}
		want.phases[1-s] = api.Up
		wantState(t, "P12.1: Shut of one in Up", p, want)
		wantMore(t, "P12.2: Shut of one in Up", p, s, had, nearOf(s).saw(pair.EntDown, ""))
		wantErr(t, "P12.1: Send behind Shut", p, send(s, "x"), api.ErrLinkPhase)
	}
}

func TestP12_1Send(t *testing.T) {
	for s := range 2 {
		for _, n := range []int{0, 1, 1000, 1001} {
			a := pair.Act{Kind: pair.Send, Side: s, Body: make([]byte, n)}
			wantRefused(t, "P12.1: Send in Shut", pair.New(), a, api.ErrLinkPhase)
			wantRefused(t, "P12.1: Send in Opening", opening(t), a, api.ErrLinkPhase)
			p := up(t)
			if n == 0 || n == 1001 {
				wantRefused(t, "P12.1: Send in Up", p, a, api.ErrLinkLong)
				continue
			}
			must(t, "P12.1: Send in Up", p, a)
			want := state{flight: 1, phases: [2]int{api.Up, api.Up}}
			want.queue[s] = 1
			wantState(t, "P12.1: Send in Up", p, want)
			drain(t, p)
			want.flight, want.queue[s] = 0, 0
			wantState(t, "P12.1: Send in Up", p, want)
			wantGot(t, "P12.1: Send in Up", p, 1-s, string(a.Body))
		}
	}
}

func TestP12_1SendWithAFullQueue(t *testing.T) {
	for s := range 2 {
		p := queued(t, s, 64)
		want := state{flight: 8, phases: [2]int{api.Up, api.Up}}
		want.queue[s] = 64
		wantState(t, "P12.1: a full queue", p, want)
		wantRefused(t, "P12.1: a full queue", p, send(s, "x"), api.ErrLinkFull)
		wantRefused(t, "P12.1: a full queue, no Body", p, send(s, ""), api.ErrLinkLong)
		wantRefused(t, "P12.1: a full queue, a long Body", p, send(s, string(make([]byte, 1001))), api.ErrLinkLong)
		must(t, "P12.1: the other side's queue", p, send(1-s, "y"))
		drain(t, p)
		var all []string
		for i := range 64 {
			all = append(all, signal(i))
		}
		wantGot(t, "P12.1: a full queue", p, 1-s, all...)
		wantGot(t, "P12.1: a full queue", p, s, "y")
		must(t, "P12.1: the queue ran empty", p, send(s, "x"))
	}
}

func TestP12_1Tick(t *testing.T) {
	for s := range 2 {
		p := pair.New()
		must(t, "P12.1: Tick in Shut", p, times(10, at(pair.Tick, s))...)
		wantWhole(t, "P12.1: Tick in Shut", p, whole{})
		p = opening(t)
		for n := range 9 {
			must(t, "P12.1: Tick in Opening", p, at(pair.Tick, s))
			wantFlight(t, "P12.1: each third Tick in Opening", p, (n+1)/3)
		}
		p = up(t)
		must(t, "P12.1: Tick in Up", p, times(10, at(pair.Tick, s))...)
		wantFlight(t, "P12.1: Tick in Up, nothing sent", p, 0)
		p = queued(t, s, 3)
		loseAll(t, p)
		must(t, "P12.1: Tick of the other end", p, times(10, at(pair.Tick, 1-s))...)
		for n := range 9 {
			wantFlight(t, "P12.1: each third Tick in Up", p, n/3*3)
			must(t, "P12.1: Tick in Up", p, at(pair.Tick, s))
		}
		drain(t, p)
		wantGot(t, "P12.1: Tick sends again", p, 1-s, signal(0), signal(1), signal(2))
	}
}

func TestP12_1Boot(t *testing.T) {
	for s := range 2 {
		p := pair.New()
		must(t, "P12.1: Boot in Shut", p, at(pair.Boot, s))
		wantState(t, "P12.1: Boot in Shut", p, state{})
		must(t, "P12.1: Boot in Opening", p, at(pair.Open, s), at(pair.Tick, s), at(pair.Tick, s), at(pair.Boot, s))
		wantState(t, "P12.1: Boot in Opening", p, state{flight: 1})
		wantLog(t, "P12.1: Boot", p, s, booted(2), booted(3))
		must(t, "P12.1: a new end", p, at(pair.Open, s), at(pair.Tick, s), at(pair.Tick, s))
		wantFlight(t, "P12.1: a new end has counted no ticks", p, 2)
		p = queued(t, s, 12)
		other := seenAll(p.Log(1 - s))
		must(t, "P12.1: Boot in Up", p, at(pair.Boot, s))
		want := state{flight: 8}
		want.phases[1-s] = api.Up
		wantState(t, "P12.1: Boot in Up", p, want)
		wantLog(t, "P12.1: Boot in Up", p, 1-s, other...)
		wantErr(t, "P12.1: Send behind Boot", p, send(s, "x"), api.ErrLinkPhase)
		must(t, "P12.1: the other end", p, send(1-s, "x"))
	}
}

// A new end begins with token 1, and knows nothing of the other one, even if
// what the other one says is older than what was heard ahead of Boot.
func TestP12_1BootForgets(t *testing.T) {
	for s := range 2 {
		p := up(t)
		b := nearOf(s)
		must(t, "P12.1: Boot, Open", p, at(pair.Boot, s), at(pair.Open, s))
		drain(t, p)
		b.boot, b.mine, b.yours = b.boot+1, 1, b.yours+1
		l := p.Log(s)
		if got := seenAll(l[len(l)-1:]); got[0] != b.saw(pair.EntUp, "") {
			t.Errorf("P12.1: up again behind Boot: %v, not %v", got[0], b)
		}
	}
}

func TestP12_1TheLastBoot(t *testing.T) {
	for s := range 2 {
		p := up(t)
		had := seenAll(p.Log(s))
		p.SkipTo(s, most32-1)
		must(t, "P12.1: the last boot but one", p, at(pair.Boot, s))
		wantMore(t, "P12.1: the last boot", p, s, had, booted(most32))
		wantRefused(t, "P12.1: the last boot, in Shut", p, at(pair.Boot, s), api.ErrArg)
		must(t, "P12.1: the last boot", p, at(pair.Open, s))
		wantRefused(t, "P12.1: the last boot, in Opening", p, at(pair.Boot, s), api.ErrArg)
		drain(t, p)
		must(t, "P12.1: the last boot", p, send(s, "x"))
		wantPhase(t, "P12.1: the last boot", p, s, api.Up)
		wantRefused(t, "P12.1: the last boot, in Up", p, at(pair.Boot, s), api.ErrArg)
		drain(t, p)
		wantGot(t, "P12.1: the last boot", p, 1-s, "x")
		must(t, "P12.1: the other one", p, at(pair.Boot, 1-s))
	}
}
