package pair_test

import (
	"testing"

	"rookery/api"
	"rookery/pair"
)

func TestP12_1Deliver(t *testing.T) {
	for s := range 2 {
		for _, i := range []int{0, 1, 2, 3} {
			p := queued(t, s, 4)
			must(t, "P12.1: Deliver", p, of(pair.Deliver, i))
			wantFlight(t, "P12.1: Deliver, and an Ack", p, 4)
			if i == 0 {
				wantGot(t, "P12.1: Deliver of the first", p, 1-s, signal(0))
				continue
			}
			wantGot(t, "P12.1: Deliver of a later one", p, 1-s)
			// It is gone: of those ahead of it all come, of those behind it none.
			for range i {
				must(t, "P12.1: Deliver", p, of(pair.Deliver, 0))
			}
			for range 3 - i {
				must(t, "P12.1: Deliver", p, of(pair.Deliver, 0))
			}
			var want []string
			for k := range i {
				want = append(want, signal(k))
			}
			wantGot(t, "P12.1: the others", p, 1-s, want...)
		}
	}
}

// What is in flight to an end that is shut comes to nothing, and is gone.
func TestP12_1DeliverToOneThatIsShut(t *testing.T) {
	for s := range 2 {
		p := pair.New()
		must(t, "P12.1: Open, Deliver", p, at(pair.Open, s), of(pair.Deliver, 0))
		want := whole{}
		want.phases[s] = api.Opening
		wantWhole(t, "P12.1: Deliver to one in Shut", p, want)
		wantErr(t, "P12.1: Deliver again", p, of(pair.Deliver, 0), api.ErrPairNone)
	}
}

// A packet comes with the boot that its sender had then: behind the Hello of
// the later boot that of the earlier one is older, and does nothing.
func TestP12_1AnEarlierBoot(t *testing.T) {
	for s := range 2 {
		p := pair.New()
		must(t, "P12.1: two boots", p, at(pair.Open, s), at(pair.Boot, s), at(pair.Open, s))
		must(t, "P12.1: the other one", p, at(pair.Open, 1-s), of(pair.Drop, 2))
		wantFlight(t, "P12.1: a Hello of each boot", p, 2)
		must(t, "P12.1: the later one first", p, of(pair.Deliver, 1))
		wantFlight(t, "P12.1: the later one is answered", p, 2)
		must(t, "P12.1: the earlier one", p, of(pair.Deliver, 0))
		wantFlight(t, "P12.1: the earlier one is older", p, 1)
		drain(t, p)
		wantLog(t, "P12.2: the later boot", p, 1-s, bond{1, 1, 2, 1}.saw(pair.EntUp, ""))
	}
}

// Twins keep the boot too, and what is said by one that has fallen still comes.
func TestP12_1DataOfAnEarlierBoot(t *testing.T) {
	for s := range 2 {
		p := queued(t, s, 2)
		had := seenAll(p.Log(1 - s))
		must(t, "P12.1: Boot, Open", p, at(pair.Boot, s), at(pair.Open, s), of(pair.Twin, 0))
		must(t, "P12.1: the twin", p, of(pair.Deliver, 3), of(pair.Deliver, 1))
		b := nearOf(1 - s)
		wantMore(t, "P12.2: of one that has fallen", p, 1-s, had, b.saw(pair.EntGot, signal(0)), b.saw(pair.EntGot, signal(1)))
	}
}

// What was meant for an end's last life does nothing to the new one.
func TestP12_1ForAnEarlierBoot(t *testing.T) {
	for s := range 2 {
		p := queued(t, s, 2)
		must(t, "P12.1: Boot, Open", p, at(pair.Boot, 1-s), at(pair.Open, 1-s), of(pair.Drop, 2))
		had := wholeOf(p)
		must(t, "P12.1: for an earlier boot", p, of(pair.Deliver, 1), of(pair.Deliver, 0))
		had.flight = 0
		wantWhole(t, "P12.1: for an earlier boot", p, had)
	}
}

func TestP12_1Drop(t *testing.T) {
	for s := range 2 {
		for i := range 5 {
			p := queued(t, s, 5)
			had := wholeOf(p)
			must(t, "P12.1: Drop", p, of(pair.Drop, i))
			had.flight = 4
			wantWhole(t, "P12.1: Drop", p, had)
			var want []string
			for k := range i {
				want = append(want, signal(k))
			}
			for range 4 {
				must(t, "P12.1: Deliver", p, of(pair.Deliver, 0))
			}
			wantGot(t, "P12.1: Drop: those ahead come in order", p, 1-s, want...)
			drain(t, p)
			must(t, "P12.1: Tick", p, times(3, at(pair.Tick, s))...)
			wantFlight(t, "P12.1: those from the dropped one on are sent again", p, 5-i)
		}
	}
}

func TestP12_1Twin(t *testing.T) {
	for s := range 2 {
		for i := range 5 {
			p := queued(t, s, 5)
			had := wholeOf(p)
			must(t, "P12.1: Twin", p, of(pair.Twin, i))
			had.flight = 6
			wantWhole(t, "P12.1: Twin", p, had)
			// Those ahead of it come; it and those behind it are lost; the twin comes.
			var want []string
			for k := range i {
				must(t, "P12.1: Deliver", p, of(pair.Deliver, 0))
				want = append(want, signal(k))
			}
			wantGot(t, "P12.1: Twin leaves the others", p, 1-s, want...)
			must(t, "P12.1: Drop", p, times(5-i, of(pair.Drop, 0))...)
			must(t, "P12.1: the twin", p, of(pair.Deliver, 0))
			wantGot(t, "P12.1: the twin", p, 1-s, append(want, signal(i))...)
		}
	}
}

// One that comes twice is got once.
func TestP12_1BothTwins(t *testing.T) {
	for s := range 2 {
		p := queued(t, s, 3)
		must(t, "P12.1: Twin", p, of(pair.Twin, 0), of(pair.Twin, 1), of(pair.Twin, 3), of(pair.Twin, 5))
		wantFlight(t, "P12.1: Twin of a twin", p, 7)
		drain(t, p)
		wantGot(t, "P12.4: twins", p, 1-s, signal(0), signal(1), signal(2))
	}
}

func TestP12_1TwinWithAFullFlight(t *testing.T) {
	for s := range 2 {
		p := queued(t, s, 2)
		fill(t, p, 1023)
		must(t, "P12.1: Twin with 1023", p, of(pair.Twin, 1))
		wantFlight(t, "P12.1: Twin with 1023", p, 1024)
		for _, i := range []int{0, 1, 500, 1023} {
			had := wholeOf(p)
			must(t, "P12.1: Twin with 1024", p, of(pair.Twin, i))
			wantWhole(t, "P12.1: Twin with 1024", p, had)
		}
		// The last one is still the twin of the second signal.
		must(t, "P12.1: Deliver", p, of(pair.Deliver, 0))
		must(t, "P12.1: Drop", p, times(1022, of(pair.Drop, 0))...)
		wantGot(t, "P12.1: the first", p, 1-s, signal(0))
		wantFlight(t, "P12.1: the last twin and an Ack", p, 2)
		must(t, "P12.1: Deliver", p, of(pair.Deliver, 0))
		wantGot(t, "P12.1: the last twin", p, 1-s, signal(0), signal(1))
	}
}

// An act is done, though what it lets be emitted is lost.
func TestP12_1EmittedWithAFullFlight(t *testing.T) {
	for s := range 2 {
		p := pair.New()
		must(t, "P12.1: Open", p, at(pair.Open, 1-s))
		fill(t, p, 1024)
		must(t, "P12.1: Open with 1024", p, at(pair.Open, s))
		wantState(t, "P12.1: Open with 1024", p, state{flight: 1024, phases: [2]int{api.Opening, api.Opening}})
		loseAll(t, p)
		must(t, "P12.1: Tick", p, times(3, at(pair.Tick, s))...)
		wantFlight(t, "P12.1: what was lost stays lost", p, 1)

		p = queued(t, s, 1)
		fill(t, p, 1024)
		must(t, "P12.1: Send with 1024", p, send(s, "x"))
		wantFlight(t, "P12.1: Send with 1024", p, 1024)
		if p.Queue(s) != 2 {
			t.Errorf("P12.1: Send with 1024: %d queued", p.Queue(s))
		}
		for range 1024 {
			must(t, "P12.1: Deliver with 1024", p, of(pair.Deliver, 0))
			wantFlight(t, "P12.1: the Ack finds the room of what came", p, 1024)
		}
		drain(t, p)
		wantGot(t, "P12.1: Send with 1024", p, 1-s, signal(0))
	}
}

// Of what one act lets be emitted the first find room.
func TestP12_1EmittedWithLittleRoom(t *testing.T) {
	for s := range 2 {
		p := queued(t, s, 8)
		must(t, "P12.1: Drop", p, times(7, of(pair.Drop, 0))...)
		fill(t, p, 1020)
		must(t, "P12.1: Tick", p, times(3, at(pair.Tick, s))...)
		wantFlight(t, "P12.1: eight, with room for four", p, 1024)
		must(t, "P12.1: Drop", p, times(1020, of(pair.Drop, 0))...)
		must(t, "P12.1: Deliver", p, times(4, of(pair.Deliver, 0))...)
		wantGot(t, "P12.1: the first four", p, 1-s, signal(0), signal(1), signal(2), signal(3))
	}
}

// An Ack that comes leaves room for one, though it lets eight be sent.
func TestP12_1EmittedWithRoomForOne(t *testing.T) {
	for s := range 2 {
		p := queued(t, s, 16)
		for range 8 {
			must(t, "P12.1: Deliver", p, of(pair.Deliver, 0))
		}
		must(t, "P12.1: all Acks but the last are lost", p, times(7, of(pair.Drop, 0))...)
		fill(t, p, 1024)
		must(t, "P12.1: Deliver", p, of(pair.Deliver, 0))
		wantFlight(t, "P12.1: eight, with room for one", p, 1024)
		must(t, "P12.1: Drop", p, times(1023, of(pair.Drop, 0))...)
		drain(t, p)
		var want []string
		for i := range 9 {
			want = append(want, signal(i))
		}
		wantGot(t, "P12.1: the first of eight", p, 1-s, want...)
	}
}

// What both ends have emitted is in flight behind one act, side 0's first. The
// packet that goes to side 1, which is shut by then, is not answered.
func TestP12_1SideZeroFirst(t *testing.T) {
	for s := range 2 {
		p := pair.New()
		p.End(1).Open()
		p.End(0).Open()
		must(t, "P12.1: Tick", p, at(pair.Tick, s))
		wantFlight(t, "P12.1: both have emitted", p, 2)
		must(t, "P12.1: Shut", p, at(pair.Shut, 1), of(pair.Deliver, 0))
		wantFlight(t, "P12.1: the first is side 0's", p, 1)
		must(t, "P12.1: Deliver", p, of(pair.Deliver, 0))
		wantFlight(t, "P12.1: the second is side 1's", p, 1)
	}
}

// What is emitted is behind all others in flight.
func TestP12_1Behind(t *testing.T) {
	for s := range 2 {
		p := queued(t, s, 3)
		must(t, "P12.1: Send of the other one", p, send(1-s, "x"))
		must(t, "P12.1: Send", p, send(s, signal(3)))
		must(t, "P12.1: Deliver", p, of(pair.Deliver, 3))
		wantGot(t, "P12.1: the fourth is the other one's", p, s, "x")
		must(t, "P12.1: Deliver", p, of(pair.Deliver, 0), of(pair.Deliver, 0), of(pair.Deliver, 0))
		wantGot(t, "P12.1: the first three", p, 1-s, signal(0), signal(1), signal(2))
		must(t, "P12.1: Deliver", p, of(pair.Deliver, 0))
		wantGot(t, "P12.1: then the fifth", p, 1-s, signal(0), signal(1), signal(2), signal(3))
	}
}

func TestP12_1Example(t *testing.T) {
	p := pair.New()
	must(t, "the example", p, at(pair.Open, 0), at(pair.Open, 1))
	for _, n := range []int{2, 2, 2, 2, 2, 1} {
		wantFlight(t, "the example: three Hellos each way", p, n)
		must(t, "the example", p, of(pair.Deliver, 0))
	}
	wantState(t, "the example", p, state{phases: [2]int{api.Up, api.Up}})
	must(t, "the example", p, send(0, "x"), of(pair.Deliver, 0))
	b := bond{1, 1, 1, 1}
	wantLog(t, "the example", p, 0, b.saw(pair.EntUp, ""), b.saw(pair.EntSent, "x"))
	wantLog(t, "the example", p, 1, b.saw(pair.EntUp, ""), b.saw(pair.EntGot, "x"))
}
