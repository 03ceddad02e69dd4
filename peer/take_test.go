package peer_test

import (
	"slices"
	"testing"

	"rookery/api"
)

// came: a packet, and the end that says it.
type came struct {
	from far
	p    api.Packet
}

// notHeard: what an end that is Up with f does not hear, of f's node.
func notHeard(f far) []came {
	var out []came
	older, old := f, f
	older.boot--
	old.mine--
	for _, x := range []far{older, old} {
		for _, p := range x.words() {
			out = append(out, came{x, p})
		}
	}
	olderButMore := older
	olderButMore.mine += 5
	newer, late := f.newer(), f
	late.boot++
	for _, x := range []far{olderButMore, newer, late, f.again(), {f.node, f.boot, f.mine, most32}} {
		for _, p := range []api.Packet{x.data(first, "d"), x.acked(first), x.beat(8, 9, 1)} {
			out = append(out, came{x, p})
		}
	}
	for _, p := range []api.Packet{f.data(first, "d"), f.acked(first), f.beat(8, 9, 1)} {
		p.Boot = ownBoot + 1
		out = append(out, came{f, p})
		p.Boot = ownBoot - 1
		out = append(out, came{f, p})
	}
	return out
}

func TestP14_3NoPeer(t *testing.T) {
	for _, from := range noPeers {
		for _, boot := range []uint32{0, 1, ownBoot, most32} {
			for _, b := range [][]byte{nil, {9}, laid(t, farOf(1).greeting(0)), laid(t, farOf(1).data(first, "x"))} {
				wantRefused(t, "P14.3: no peer", up(t, 1), from, boot, b, api.ErrPeerNode)
			}
		}
	}
}

func TestP14_3BootZero(t *testing.T) {
	for _, from := range others {
		for _, b := range [][]byte{nil, {9}, laid(t, farOf(1).greeting(0)), laid(t, farOf(1).data(first, "x"))} {
			wantRefused(t, "P14.3: boot 0", up(t, 1), from, 0, b, api.ErrArg)
		}
	}
}

// spoilt: bodies of each error of pack.Decode.
func spoilt(t *testing.T) map[string]api.Errno {
	t.Helper()
	f := farOf(1)
	hello, data, ack, beat := string(laid(t, f.greeting(0))), string(laid(t, f.data(first, "x"))), string(laid(t, f.acked(first))), string(laid(t, f.beat(1, 2, 3)))
	nobody := func(s string) string { return s[:1] + "\x00\x00\x00\x00" + s[5:] }
	return map[string]api.Errno{
		"":                            api.ErrPackShort,
		hello[:len(hello)-1]:          api.ErrPackShort,
		data[:len(data)-1]:            api.ErrPackShort,
		ack[:len(ack)-1]:              api.ErrPackShort,
		beat[:1]:                      api.ErrPackShort,
		"\x00" + hello[1:]:            api.ErrPackKind,
		"\x05" + hello[1:]:            api.ErrPackKind,
		"\xff":                        api.ErrPackKind,
		hello + "\x00":                api.ErrPackLong,
		ack + "x":                     api.ErrPackLong,
		beat + "x":                    api.ErrPackLong,
		data + string(bytesOf(1000)):  api.ErrPackLong,
		nobody(hello):                 api.ErrPackForm,
		nobody(data):                  api.ErrPackForm,
		nobody(ack):                   api.ErrPackForm,
		nobody(beat):                  api.ErrPackForm,
		hello[:len(hello)-1] + "\x02": api.ErrPackForm,
		beat[:len(beat)-8] + "\x80\x00\x00\x00\x00\x00\x00\x00": api.ErrPackForm,
		beat[:len(beat)-8] + "\x7f\xf0\x00\x00\x00\x00\x00\x00": api.ErrPackForm,
	}
}

func bytesOf(n int) []byte { return make([]byte, n) }

// What pack.Decode refuses changes nothing, and does not count as heard.
func TestP14_3DecodesErrors(t *testing.T) {
	for b, e := range spoilt(t) {
		for _, from := range others {
			p := up(t, 1, 2)
			ticks(t, p, 5)
			p.Out()
			for _, boot := range []uint32{1, farOf(from).boot, most32} {
				wantRefused(t, "P14.3: pack.Decode's error", p, from, boot, []byte(b), e)
			}
			wantOut(t, "P14.3: pack.Decode's error", p)
			ticks(t, p, 5)
			wantUps(t, "P14.3: pack.Decode's error", p, 1, 2)
			p.Tick()
			wantEvents(t, "P14.3: pack.Decode's error", p, fell(1), fell(2))
		}
	}
}

// Hellos of links in Opening: each is heard, and answered; one that is meant for
// this attempt brings the link up.
func TestP14_3Opening(t *testing.T) {
	for _, n := range others {
		f := farOf(n)
		p := fresh(t)
		wantTake(t, "P14.3: a Hello of a stranger", p, f, f.stranger(), "")
		wantOut(t, "P14.3: a Hello of a stranger", p, f.knows())
		wantEvents(t, "P14.3: a Hello of a stranger", p)
		wantTake(t, "P14.3: one that means another attempt", p, f, f.again().greeting(0), "")
		wantOut(t, "P14.3: one that means another attempt", p, f.knows())
		for _, w := range f.words()[3:] {
			wantTake(t, "P14.3: no Hello, in Opening", p, f, w, "")
		}
		wantOut(t, "P14.3: no Hello, in Opening", p)
		wantPhase(t, "P14.3: Opening", p, n, api.Opening)
		g := f.newer()
		wantTake(t, "P14.3: a newer one", p, g, g.greeting(0), "")
		wantOut(t, "P14.3: a newer one", p, g.greets())
		wantEvents(t, "P14.3: a newer one", p, rose(n))
		wantUps(t, "P14.3: a newer one", p, n)
		wantTake(t, "P14.3: an older one", p, f, f.greeting(0), "")
		wantOut(t, "P14.3: an older one", p)
		wantEvents(t, "P14.3: an older one", p)
	}
}

// In Opening too what is older than the newest comes to nothing.
func TestP14_3OpeningOlder(t *testing.T) {
	f := farOf(2)
	p := fresh(t)
	wantTake(t, "P14.3: a stranger", p, f, f.stranger(), "")
	p.Out()
	older := f
	older.boot--
	older.mine += 9
	wantTake(t, "P14.3: an older boot", p, older, older.greeting(0), "")
	older = f
	older.mine--
	wantTake(t, "P14.3: an older token", p, older, older.greeting(0), "")
	wantOut(t, "P14.3: an older one", p)
	wantPhase(t, "P14.3: an older one", p, 2, api.Opening)
	rise(t, p, f)
}

// What is not heard is answered by nothing, and tells nothing.
func TestP14_3NotHeard(t *testing.T) {
	for _, n := range others {
		for _, c := range notHeard(farOf(n)) {
			p := up(t, others...)
			wantTake(t, "P14.3: not heard", p, c.from, c.p, "")
			wantFate(t, "P14.3: not heard", p, fate(t, up(t, others...)))
		}
	}
}

// In Up: a Hello of the same end; one of a newer boot, or token, by which the
// link is down, and opened again; it is up anew then.
func TestP14_3Up(t *testing.T) {
	for _, n := range others {
		f := farOf(n)
		p := up(t, n)
		wantTake(t, "P14.3: the same", p, f, f.greeting(1), "")
		wantOut(t, "P14.3: the same", p)
		wantTake(t, "P14.3: the same, which is not up", p, f, f.greeting(0), "")
		wantOut(t, "P14.3: the same, which is not up", p, f.greets())
		wantEvents(t, "P14.3: the same", p)
		boot, token := f.again(), f.again()
		boot.boot++
		boot.mine = 1
		token.mine++
		for _, g := range []far{boot, token} {
			p := up(t, n)
			wantErr(t, "P14.4: Send", p.Send(n, []byte("x")), api.OK)
			p.Out()
			wantTake(t, "P14.3: a newer one", p, g, g.stranger(), "")
			wantEvents(t, "P14.3: a newer one", p, fell(n))
			wantOut(t, "P14.3: a newer one", p, g.knows())
			wantPhase(t, "P14.3: a newer one", p, n, api.Opening)
			wantQueue(t, "P14.3: a newer one", p, n, 0)
			wantErr(t, "P14.3: a newer one", p.Send(n, []byte("x")), api.ErrPeerDown)
			rise(t, p, g)
			wantTake(t, "P14.3: the old one", p, f, f.greeting(0), "")
			wantOut(t, "P14.3: the old one", p)
			wantUps(t, "P14.3: the old one", p, n)
		}
	}
}

// A newer one that already means the new attempt: the link is down first.
func TestP14_3DownThenUp(t *testing.T) {
	f := farOf(4)
	p := up(t, 4)
	g := f.newer().again()
	wantTake(t, "P14.3: newer", p, g, g.greeting(0), "")
	wantTake(t, "P14.3: newer", p, g, g.greeting(0), "")
	wantEvents(t, "P14.3: down, then up", p, fell(4), rose(4))
	wantOut(t, "P14.3: down, then up", p, g.knows(), g.greets())
}

// At the last token a newer one shuts the end; that is an event, and the end.
func TestP14_3DownAtTheLastToken(t *testing.T) {
	f := farOf(1)
	f.yours = most32
	p := fresh(t)
	p.Wear(1, most32)
	rise(t, p, f)
	g := f.newer()
	wantTake(t, "P14.3: newer, at the last token", p, g, g.stranger(), "")
	wantEvents(t, "P14.3: newer, at the last token", p, fell(1))
	wantStaysShut(t, "P14.3: newer, at the last token", p, g)
}

// Quiet is 0 when a link is up anew, and so is echo.
func TestP14_3UpAnew(t *testing.T) {
	for _, at := range []int{0, 1, 5, 9, 10} {
		f := farOf(2)
		p := up(t, 2)
		wantTake(t, "P14.3: a Beat", p, f, f.beat(88, 0, 1), "")
		ticks(t, p, at)
		g := f.newer().again()
		wantTake(t, "P14.3: newer", p, g, g.stranger(), "")
		wantEvents(t, "P14.3: newer", p, fell(2))
		ticks(t, p, at)
		rise(t, p, g)
		p.Tick()
		if got := ofNode(sentAll(t, p.Out()), 2); !slices.Equal(got, []sent{g.beats(uint32(2*at+1), 0, ownZ)}) {
			t.Errorf("P14.3: up anew, the Beat is %+v", clip(got))
		}
		quietFor(t, "P14.3: up anew", p, 2, 10)
		f = g.again()
		ticks(t, p, at)
		rise(t, p, f)
		quietFor(t, "P14.3: up anew behind a cut", p, 2, 11)
	}
}

// So it is with an echo behind a cut.
func TestP14_3EchoBehindACut(t *testing.T) {
	f := farOf(5)
	p := up(t, 5)
	wantTake(t, "P14.3: a Beat", p, f, f.beat(88, 0, 1), "")
	quietFor(t, "P14.2", p, 5, 11)
	rise(t, p, f.again())
	p.Tick()
	if got := ofNode(sentAll(t, p.Out()), 5); !slices.Equal(got, []sent{f.again().beats(12, 0, ownZ)}) {
		t.Errorf("P14.3: up anew, the Beat is %+v", clip(got))
	}
}

// Signals: the one that is expected is answered, once; each Data is
// acknowledged.
func TestP14_3Signals(t *testing.T) {
	for _, n := range others {
		f := farOf(n)
		p := up(t, n)
		wantTake(t, "P14.3: the second one first", p, f, f.data(first+1, "two"), "")
		wantOut(t, "P14.3: the second one first", p, f.acks(first))
		for i, b := range []string{"one", "two", string(bytesOf(1000)), "four"} {
			seq := first + uint32(i)
			wantTake(t, "P14.3: a signal", p, f, f.data(seq, b), b)
			wantOut(t, "P14.3: a signal", p, f.acks(seq+1))
			wantTake(t, "P14.3: the same again", p, f, f.data(seq, b), "")
			wantOut(t, "P14.3: the same again", p, f.acks(seq+1))
		}
		wantEvents(t, "P14.3: signals", p)
	}
}

// What is acknowledged leaves the queue, and what waits is sent.
func TestP14_3Acks(t *testing.T) {
	f := farOf(2)
	p := queued(t, 2, 10)
	wantTake(t, "P14.3: an Ack", p, f, f.acked(first+1), "")
	wantQueue(t, "P14.3: an Ack", p, 2, 9)
	wantOut(t, "P14.3: an Ack", p, f.sends(first+8, signal(8)))
	beat := f.beat(1, 0, 1)
	beat.Ack = first + 2
	wantTake(t, "P14.3: a Beat", p, f, beat, "")
	wantQueue(t, "P14.3: a Beat acknowledges too", p, 2, 8)
	wantOut(t, "P14.3: a Beat acknowledges too", p, f.sends(first+9, signal(9)))
}
