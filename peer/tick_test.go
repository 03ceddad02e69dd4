package peer_test

import (
	"slices"
	"testing"

	"rookery/api"
)

// Of a link that is not Up nothing is counted, but by its end.
func TestP14_2Opening(t *testing.T) {
	p := fresh(t)
	for n := range 60 {
		p.Tick()
		var want []sent
		if n%3 == 2 {
			want = []sent{opens(1, 1), opens(2, 1), opens(4, 1), opens(5, 1)}
		}
		wantOut(t, "P14.2: a tick of links in Opening", p, want...)
		wantEvents(t, "P14.2: a tick of links in Opening", p)
	}
	rise(t, p, farOf(2))
	quietFor(t, "P14.2: ticks ahead of Up", p, 2, 11)
}

func TestP14_2MaxQuiet(t *testing.T) {
	for _, n := range others {
		quietFor(t, "P14.2: eleven ticks without a word", up(t, n), n, 11)
	}
}

// A word at each tick up to the last that is allowed, of each kind.
func TestP14_2AWord(t *testing.T) {
	for _, n := range others {
		f := farOf(n)
		for _, word := range f.words() {
			for at := range 11 {
				p := up(t, n)
				ticks(t, p, at)
				if _, e := p.Take(n, f.boot, laid(t, word)); e != api.OK {
					t.Errorf("P14.3: Take of kind %d: %d", word.Kind, e)
				}
				quietFor(t, "P14.2: eleven ticks behind a word", p, n, 11)
			}
		}
	}
}

// One that is heard in each ten ticks stays up for good, whatever the others do.
func TestP14_2HeardNowAndThen(t *testing.T) {
	for _, gap := range []int{1, 2, 5, 9, 10} {
		p := up(t, 1, 2, 4)
		for n := range 300 {
			p.Tick()
			if n%gap == gap-1 {
				wantTake(t, "P14.3: a Beat", p, farOf(2), farOf(2).beat(uint32(n), 0, 1), "")
			}
		}
		wantEvents(t, "P14.2: heard in each ten ticks", p, fell(1), fell(4))
		wantUps(t, "P14.2: heard in each ten ticks", p, 2)
	}
}

// A link that is cut: the event, and what the end emits: first what it had
// emitted, then a Hello of the next attempt; the tick of the cut counts for it.
func TestP14_2Cut(t *testing.T) {
	f := farOf(4)
	p := queued(t, 4, 12)
	ticks(t, p, 10)
	p.Out()
	wantErr(t, "P14.4: Send", p.Send(4, []byte("late")), api.OK)
	p.Tick()
	wantEvents(t, "P14.2: cut", p, fell(4))
	wantPhase(t, "P14.2: cut", p, 4, api.Opening)
	wantQueue(t, "P14.2: cut", p, 4, 0)
	wantUps(t, "P14.2: cut", p)
	wantErr(t, "P14.2: cut", p.Send(4, []byte("x")), api.ErrPeerDown)
	if got := ofNode(sentAll(t, p.Out()), 4); !slices.Equal(got, []sent{opens(4, 2)}) {
		t.Errorf("P14.2: a cut emits %+v", clip(got))
	}
	for n := range 9 {
		p.Tick()
		var want []sent
		if n%3 == 1 {
			want = []sent{opens(4, 2)}
		}
		if got := ofNode(sentAll(t, p.Out()), 4); !slices.Equal(got, want) {
			t.Errorf("P14.2: tick %d behind a cut emits %+v, not %+v", n+1, clip(got), clip(want))
		}
	}
	wantTake(t, "P14.2: the old attempt", p, f, f.greeting(1), "")
	wantPhase(t, "P14.2: the old attempt", p, 4, api.Opening)
	rise(t, p, f.again())
	wantErr(t, "P14.4: Send", p.Send(4, []byte("new")), api.OK)
	wantOut(t, "P14.2: up anew", p, f.again().sends(first, "new"))
	quietFor(t, "P14.2: up anew", p, 4, 11)
}

// ofNode: what goes to one node.
func ofNode(l []sent, node int) []sent {
	return slices.DeleteFunc(slices.Clone(l), func(s sent) bool { return s.to != node })
}

// What was emitted ahead of a cut goes out ahead of what comes of it.
func TestP14_2CutKeepsWhatWasEmitted(t *testing.T) {
	f := farOf(1)
	p := up(t, 1)
	var want []sent
	for n := range 10 {
		p.Tick()
		want = append(want, f.beats(uint32(n+1), 0, ownZ))
	}
	p.Tick()
	if got := ofNode(sentAll(t, p.Out()), 1); !slices.Equal(got, append(want, opens(1, 2))) {
		t.Errorf("P14.2: a cut emits %+v", clip(got))
	}
}

// Several links that are cut at one tick, by rising numbers; the others stay.
func TestP14_2SeveralCut(t *testing.T) {
	p := up(t, 5, 1, 4, 2)
	ticks(t, p, 10, farOf(4))
	wantEvents(t, "P14.2: ten ticks", p)
	ticks(t, p, 1, farOf(4))
	wantEvents(t, "P14.2: by rising numbers", p, fell(1), fell(2), fell(5))
	wantUps(t, "P14.2: by rising numbers", p, 4)
	p = up(t, 5, 1)
	ticks(t, p, 3, farOf(1))
	rise(t, p, farOf(2))
	for _, want := range [][]api.Event{7: {fell(5)}, 10: {fell(1), fell(2)}, 11: nil} {
		p.Tick()
		wantEvents(t, "P14.2: each has its own quiet", p, want...)
	}
}

// What is not heard changes nothing of how long a link was quiet.
func TestP14_2NotHeard(t *testing.T) {
	f := farOf(2)
	for i, c := range notHeard(f) {
		for at := range 11 {
			p := up(t, 2)
			ticks(t, p, at)
			p.Out()
			wantTake(t, "P14.3: not heard", p, c.from, c.p, "")
			wantOut(t, "P14.3: not heard", p)
			quietFor(t, "P14.2: a word that is not heard", p, 2, 11-at)
			if t.Failed() {
				t.Fatalf("packet %d, tick %d", i, at)
			}
		}
	}
}

// The end's Tick goes ahead of the Beat: what is sent again stands ahead of it.
func TestP14_2TheEndsTick(t *testing.T) {
	f := farOf(5)
	p := queued(t, 5, 3)
	for n := uint32(1); n <= 9; n++ {
		p.Tick()
		var want []sent
		if n%3 == 0 {
			want = []sent{f.sends(first, signal(0)), f.sends(first+1, signal(1)), f.sends(first+2, signal(2))}
		}
		if got := ofNode(sentAll(t, p.Out()), 5); !slices.Equal(got, append(want, f.beats(n, 0, ownZ))) {
			t.Errorf("P14.2: tick %d emits %+v", n, clip(got))
		}
	}
}

// Beats go to those that are Up alone, each with its own echo, by rising
// numbers; a Beat tells the number that is expected.
func TestP14_2Beats(t *testing.T) {
	p := up(t, 4, 1)
	one, four := farOf(1), farOf(4)
	p.Tick()
	wantOut(t, "P14.2: the first tick", p, one.beats(1, 0, ownZ), four.beats(1, 0, ownZ))
	wantTake(t, "P14.3: a Beat", p, four, four.beat(77, 0, 1), "")
	wantTake(t, "P14.3: Data", p, one, one.data(first, "x"), "x")
	wantOut(t, "P14.3: Data", p, one.acks(first+1))
	p.Tick()
	b := one.beats(2, 0, ownZ)
	b.ack++
	wantOut(t, "P14.2: the second tick", p, b, four.beats(2, 77, ownZ))
	wantTake(t, "P14.3: a Beat", p, one, one.beat(most32, 0, 1), "")
	wantTake(t, "P14.3: a Beat", p, four, four.beat(5, 0, 1), "")
	p.Tick()
	b = one.beats(3, most32, ownZ)
	b.ack++
	wantOut(t, "P14.2: the third tick", p, b, opens(2, 1), four.beats(3, 5, ownZ), opens(5, 1))
}

// A Beat tells this node's place as it is then.
func TestP14_2BeatsTellThePlace(t *testing.T) {
	f := farOf(1)
	p := up(t, 1)
	for n := uint32(1); n < 30; n++ {
		p.Tick()
		if got := ofNode(sentAll(t, p.Out()), 1); len(got) != 1 || got[0] != f.beats(n, n-1, p.Own()) {
			t.Fatalf("P14.2: tick %d emits %+v, own is %v", n, clip(got), p.Own())
		}
		was := p.Own()
		wantTake(t, "P14.3: a Beat", p, f, f.beat(n, n, complex(50, -20)), "")
		if p.Own() == was {
			t.Fatalf("P14.3: own stays at %v", was)
		}
	}
}

// Now goes round.
func TestP14_2NowGoesRound(t *testing.T) {
	f := farOf(2)
	p := up(t, 2)
	p.SkipTo(most32 - 1)
	for _, stamp := range []uint32{most32, 0, 1, 2} {
		p.Tick()
		if got := ofNode(sentAll(t, p.Out()), 2); !slices.Equal(got, []sent{f.beats(stamp, 0, ownZ)}) {
			t.Errorf("P14.2: %+v, not the stamp %d", clip(got), stamp)
		}
	}
	quietFor(t, "P14.2: now went round", p, 2, 7)
}

func TestP14_2TheLastToken(t *testing.T) {
	for _, n := range others {
		f := farOf(n)
		f.yours = most32
		p := fresh(t)
		p.Wear(n, most32)
		rise(t, p, f)
		wantErr(t, "P14.4: Send", p.Send(n, []byte("x")), api.OK)
		wantOut(t, "P14.4: Send", p, f.sends(first, "x"))
		ticks(t, p, 10)
		p.Out()
		p.Tick()
		wantEvents(t, "P14.2: cut, at the last token", p, fell(n))
		wantStaysShut(t, "P14.2: cut, at the last token", p, f)
	}
}

// The last token but one: the link is opened once more.
func TestP14_2TheLastTokenButOne(t *testing.T) {
	f := farOf(2)
	f.yours = most32 - 1
	p := fresh(t)
	p.Wear(2, most32-1)
	rise(t, p, f)
	quietFor(t, "P14.2: cut, at the last token but one", p, 2, 11)
	f.yours = most32
	p.Out()
	rise(t, p, f)
	ticks(t, p, 10)
	p.Out()
	p.Tick()
	wantEvents(t, "P14.2: cut, at the last token", p, fell(2))
	wantStaysShut(t, "P14.2: cut, at the last token", p, f)
}
