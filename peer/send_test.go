package peer_test

import (
	"slices"
	"testing"

	"rookery/api"
)

func TestP14_4NoPeer(t *testing.T) {
	p := up(t, others...)
	for _, to := range noPeers {
		for _, n := range []int{0, 1, 1000, 1001} {
			wantErr(t, "P14.4: no peer", p.Send(to, bytesOf(n)), api.ErrPeerNode)
		}
	}
	wantOut(t, "P14.4: no peer", p)
}

// To a link that is not Up, whatever is sent.
func TestP14_4Down(t *testing.T) {
	p := up(t, 2)
	for _, n := range []int{0, 1, 1000, 1001} {
		for _, to := range []int{1, 4, 5} {
			wantErr(t, "P14.4: in Opening", p.Send(to, bytesOf(n)), api.ErrPeerDown)
			wantQueue(t, "P14.4: in Opening", p, to, 0)
		}
	}
	wantOut(t, "P14.4: in Opening", p)
	f := farOf(1)
	wantTake(t, "P14.3: a stranger", p, f, f.stranger(), "")
	wantErr(t, "P14.4: in Opening, known", p.Send(1, []byte("x")), api.ErrPeerDown)
}

func TestP14_4TheEndsError(t *testing.T) {
	for _, to := range others {
		p := up(t, others...)
		for _, n := range []int{0, 1001, 1002, 5000} {
			wantErr(t, "P14.4: too short, too long", p.Send(to, bytesOf(n)), api.ErrLinkLong)
		}
		wantQueue(t, "P14.4: too short, too long", p, to, 0)
		wantOut(t, "P14.4: too short, too long", p)
		wantEvents(t, "P14.4: too short, too long", p)
		wantUps(t, "P14.4: too short, too long", p, others...)
	}
}

func TestP14_4Sent(t *testing.T) {
	for _, to := range others {
		f := farOf(to)
		p := up(t, others...)
		var want []sent
		for i, n := range []int{1, 2, 999, 1000} {
			b := slices.Repeat([]byte{byte('a' + i)}, n)
			wantErr(t, "P14.4: Send", p.Send(to, b), api.OK)
			wantQueue(t, "P14.4: Send", p, to, i+1)
			want = append(want, f.sends(first+uint32(i), string(b)))
		}
		for _, o := range others {
			if o != to {
				wantQueue(t, "P14.4: another one's queue", p, o, 0)
			}
		}
		wantOut(t, "P14.4: Send", p, want...)
		for i := 4; i < 12; i++ {
			wantErr(t, "P14.4: Send", p.Send(to, []byte("x")), api.OK)
		}
		if got := sentAll(t, p.Out()); len(got) != 4 {
			t.Errorf("P14.4: %d of twelve are sent behind four", len(got))
		}
		wantQueue(t, "P14.4: Send", p, to, 12)
	}
}

// The signal that does not fit into the queue cuts the link.
func TestP14_4Full(t *testing.T) {
	for _, to := range others {
		f := farOf(to)
		p := up(t, others...)
		var want []sent
		for i := range 64 {
			wantErr(t, "P14.4: Send", p.Send(to, []byte(signal(i))), api.OK)
			if i < 8 {
				want = append(want, f.sends(first+uint32(i), signal(i)))
			}
		}
		wantQueue(t, "P14.4: a full queue", p, to, 64)
		wantEvents(t, "P14.4: a full queue", p)
		for _, n := range []int{0, 1001} {
			wantErr(t, "P14.4: the end's error is another one", p.Send(to, bytesOf(n)), api.ErrLinkLong)
		}
		wantEvents(t, "P14.4: the end's error is another one", p)
		wantQueue(t, "P14.4: the end's error is another one", p, to, 64)
		wantErr(t, "P14.4: one more", p.Send(to, bytesOf(1000)), api.ErrPeerFull)
		wantEvents(t, "P14.4: one more", p, fell(to))
		wantPhase(t, "P14.4: one more", p, to, api.Opening)
		wantQueue(t, "P14.4: one more", p, to, 0)
		wantUps(t, "P14.4: one more", p, slices.DeleteFunc(slices.Clone(others), func(n int) bool { return n == to })...)
		wantOut(t, "P14.4: one more", p, append(want, opens(to, 2))...)
		wantErr(t, "P14.4: and then", p.Send(to, []byte("x")), api.ErrPeerDown)
		rise(t, p, f.again())
		wantErr(t, "P14.4: up anew", p.Send(to, []byte("new")), api.OK)
		wantOut(t, "P14.4: up anew", p, f.again().sends(first, "new"))
	}
}

// A cut outside of Tick counts no tick: the third one behind it says Hello.
func TestP14_4FullThenTicks(t *testing.T) {
	p := made(t, 1, 2, ownBoot)
	f := far{2, 9, 5, 1}
	rise(t, p, f)
	for range 64 {
		wantErr(t, "P14.4: Send", p.Send(2, []byte("x")), api.OK)
	}
	ticks(t, p, 2)
	wantErr(t, "P14.4: Send", p.Send(2, []byte("x")), api.ErrPeerFull)
	p.Out()
	for n := range 9 {
		p.Tick()
		var want []sent
		if n%3 == 2 {
			want = []sent{opens(2, 2)}
		}
		wantOut(t, "P14.4: behind a cut", p, want...)
	}
	wantEvents(t, "P14.4: behind a cut", p, fell(2))
}

// What the other end acknowledges makes room.
func TestP14_4Room(t *testing.T) {
	f := farOf(2)
	p := queued(t, 2, 64)
	wantTake(t, "P14.3: an Ack", p, f, f.acked(first+3), "")
	for range 3 {
		wantErr(t, "P14.4: room", p.Send(2, []byte("x")), api.OK)
	}
	wantErr(t, "P14.4: no room", p.Send(2, []byte("x")), api.ErrPeerFull)
}

func TestP14_4FullAtTheLastToken(t *testing.T) {
	f := farOf(5)
	f.yours = most32
	p := fresh(t)
	p.Wear(5, most32)
	rise(t, p, f)
	for range 64 {
		wantErr(t, "P14.4: Send", p.Send(5, []byte("x")), api.OK)
	}
	p.Out()
	wantErr(t, "P14.4: Send", p.Send(5, []byte("x")), api.ErrPeerFull)
	wantEvents(t, "P14.4: cut, at the last token", p, fell(5))
	wantStaysShut(t, "P14.4: cut, at the last token", p, f)
}
