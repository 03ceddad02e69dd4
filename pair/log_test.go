package pair_test

import (
	"testing"

	"rookery/api"
	"rookery/link"
	"rookery/pair"
)

func TestP12_2ShutWritesOnceAlone(t *testing.T) {
	for s := range 2 {
		p := up(t)
		had := [2][]seen{seenAll(p.Log(0)), seenAll(p.Log(1))}
		down := nearOf(s).saw(pair.EntDown, "")
		must(t, "P12.2: Shut", p, at(pair.Shut, s))
		wantMore(t, "P12.2: Shut of one in Up", p, s, had[s], down)
		must(t, "P12.2: Shut", p, at(pair.Shut, s), at(pair.Open, s), at(pair.Shut, s))
		wantMore(t, "P12.2: Shut of one in Shut, in Opening", p, s, had[s], down)
		wantLog(t, "P12.2: the other one saw nothing", p, 1-s, had[1-s]...)
	}
}

func TestP12_2SentAndGot(t *testing.T) {
	for s := range 2 {
		p := up(t)
		had := [2][]seen{seenAll(p.Log(0)), seenAll(p.Log(1))}
		b := nearOf(s)
		long := string(make([]byte, 1000))
		must(t, "P12.2: Send", p, send(s, "a"), send(s, long), send(1-s, "c"))
		for _, refused := range []string{"", long + "x"} {
			wantErr(t, "P12.2: Send", p, send(s, refused), api.ErrLinkLong)
		}
		sent := []seen{b.saw(pair.EntSent, "a"), b.saw(pair.EntSent, long)}
		wantMore(t, "P12.2: EntSent", p, s, had[s], sent...)
		must(t, "P12.2: Deliver", p, of(pair.Deliver, 2))
		wantMore(t, "P12.2: EntGot", p, s, had[s], append(sent, b.saw(pair.EntGot, "c"))...)
		must(t, "P12.2: Deliver", p, of(pair.Twin, 0), of(pair.Deliver, 0), of(pair.Deliver, 0))
		drain(t, p)
		o := b.turned()
		wantMore(t, "P12.2: EntGot", p, 1-s, had[1-s], o.saw(pair.EntSent, "c"), o.saw(pair.EntGot, "a"), o.saw(pair.EntGot, long))
		wantMore(t, "P12.2: an Ack is not written", p, s, had[s], append(sent, b.saw(pair.EntGot, "c"))...)
	}
}

// EntBoot has its new Boot alone, and tells of no link that was up.
func TestP12_2Boot(t *testing.T) {
	for s := range 2 {
		p := queued(t, s, 2)
		had := [2][]seen{seenAll(p.Log(0)), seenAll(p.Log(1))}
		must(t, "P12.2: Boot", p, at(pair.Boot, s), at(pair.Boot, s), at(pair.Open, s), at(pair.Boot, s))
		n := nearOf(s).boot
		wantMore(t, "P12.2: Boot", p, s, had[s], booted(n+1), booted(n+2), booted(n+3))
		wantLog(t, "P12.2: the other one saw nothing", p, 1-s, had[1-s]...)
	}
}

// A newer Hello takes a link down: EntDown with what was up until then. The
// next one that is meant for the new attempt brings it up: EntUp with what is.
func TestP12_2DownAndUp(t *testing.T) {
	for s := range 2 {
		p := up(t)
		had := [2][]seen{seenAll(p.Log(0)), seenAll(p.Log(1))}
		was := nearOf(s)
		must(t, "P12.2: Shut, Open", p, at(pair.Shut, 1-s), at(pair.Open, 1-s))
		wantLog(t, "P12.2: nothing came", p, s, had[s]...)
		must(t, "P12.2: a newer Hello", p, of(pair.Deliver, 0))
		wantMore(t, "P12.2: down", p, s, had[s], was.saw(pair.EntDown, ""))
		wantPhase(t, "P12.2: down", p, s, api.Opening)
		is := bond{was.boot, was.mine + 1, was.peer, was.yours + 1}
		must(t, "P12.2: its answer", p, of(pair.Deliver, 0))
		wantMore(t, "P12.2: the other one is up", p, 1-s, had[1-s], was.turned().saw(pair.EntDown, ""), is.turned().saw(pair.EntUp, ""))
		wantMore(t, "P12.2: not yet", p, s, had[s], was.saw(pair.EntDown, ""))
		must(t, "P12.2: the answer's answer", p, of(pair.Deliver, 0))
		wantMore(t, "P12.2: up", p, s, had[s], was.saw(pair.EntDown, ""), is.saw(pair.EntUp, ""))
		must(t, "P12.2: Send", p, send(s, "x"))
		drain(t, p)
		wantMore(t, "P12.2: the new link", p, s, had[s], was.saw(pair.EntDown, ""), is.saw(pair.EntUp, ""), is.saw(pair.EntSent, "x"))
	}
}

// So behind a Boot of the other one, whose boot is told as it was and as it is.
func TestP12_2DownByABoot(t *testing.T) {
	for s := range 2 {
		p := up(t)
		had := [2][]seen{seenAll(p.Log(0)), seenAll(p.Log(1))}
		was := nearOf(s)
		is := bond{was.boot, was.mine + 1, was.peer + 1, 1}
		must(t, "P12.2: Boot, Open", p, at(pair.Boot, 1-s), at(pair.Open, 1-s))
		drain(t, p)
		wantMore(t, "P12.2: the other one fell", p, s, had[s], was.saw(pair.EntDown, ""), is.saw(pair.EntUp, ""))
		wantMore(t, "P12.2: it fell", p, 1-s, had[1-s], booted(is.peer), is.turned().saw(pair.EntUp, ""))
	}
}

// What one packet does is written in this order.
func TestP12_2OneDeliver(t *testing.T) {
	for s := range 2 {
		for _, c := range []link.Taken{{Heard: true}, {Down: true}, {Up: true}, {Down: true, Up: true}, {Body: []byte("x")},
			{Up: true, Body: []byte("x")}, {Down: true, Body: []byte("x")}, {Heard: true, Down: true, Up: true, Body: []byte("x")}} {
			p := up(t)
			had, b := seenAll(p.Log(s)), nearOf(s)
			var more []seen
			if c.Down {
				more = append(more, b.saw(pair.EntDown, ""))
			}
			if c.Up {
				more = append(more, b.saw(pair.EntUp, ""))
			}
			if c.Body != nil {
				more = append(more, b.saw(pair.EntGot, "x"))
			}
			p.Saw(s, c)
			wantMore(t, "P12.2: one packet", p, s, had, more...)
		}
	}
}

func TestP12_3NoSide(t *testing.T) {
	p := queued(t, 0, 9)
	must(t, "P12.1: Send", p, send(1, "x"))
	for _, side := range append(numbers, 2) {
		if l := p.Log(side); len(l) != 0 || p.Phase(side) != 0 || p.Queue(side) != 0 {
			t.Errorf("P12.3: of side %d: %d entries, phase %d, queue %d", side, len(l), p.Phase(side), p.Queue(side))
		}
	}
}

func TestP12_3Each(t *testing.T) {
	p := queued(t, 1, 9)
	must(t, "P12.1: Shut, Open", p, send(0, "x"), at(pair.Shut, 0), at(pair.Open, 0))
	wantState(t, "P12.3: each its own", p, state{flight: 10, phases: [2]int{api.Opening, api.Up}, queue: [2]int{0, 9}})
	must(t, "P12.1: Shut", p, at(pair.Shut, 0), at(pair.Boot, 1))
	wantState(t, "P12.3: each its own", p, state{flight: 10})
	if a, b := len(p.Log(0)), len(p.Log(1)); a != 5 || b != 12 {
		t.Errorf("P12.3: logs of %d and %d entries", a, b)
	}
}
