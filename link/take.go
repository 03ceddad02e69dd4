package link

import (
	"bytes"
	"cmp"
	"math"
	"slices"

	"rookery/api"
	"rookery/serial"
)

// lastToken: no attempt comes behind it, since a token is used once.
const lastToken = math.MaxUint32

// attempt: which one of an end it is.
type attempt struct{ boot, token uint32 }

// against: below 0, if a is older than b; 0, if it is the same.
func (a attempt) against(b attempt) int {
	return cmp.Or(cmp.Compare(a.boot, b.boot), cmp.Compare(a.token, b.token))
}

func (l *Link) begin() {
	l.own.token++
	l.phase, l.known, l.queue = api.Opening, false, nil
	l.base, l.expected = api.FirstSeq, api.FirstSeq
	l.idle = 0
}

// sent: how many of the queue are. None waits while the window has room, so
// that the queue's length tells it.
func (l *Link) sent() int { return min(len(l.queue), api.MaxWindow) }

// comes: what a packet does that may be.
func (l *Link) comes(from attempt, p api.Packet) Taken {
	var t Taken
	put := l.out.behind
	age := from.against(l.newest)
	meant := attempt{boot: p.Boot, token: p.Yours} == l.own
	switch {
	case l.phase == api.Shut || age < 0:
		goto end
	case p.Kind == api.PHello:
		goto hello
	case l.phase == api.Up && age == 0 && meant:
		goto word
	}
	goto end

hello:
	t.Heard = true
	switch {
	case l.phase == api.Opening:
		goto meet
	case age > 0:
		goto fall
	case p.Seq == 0:
		goto greet
	}
	goto end

fall:
	t.Down = true
	if l.own.token == lastToken {
		// Not by Shut: the chapter says nothing of the queue here.
		l.phase, l.known = api.Shut, false
		goto end
	}
	l.begin()
	l.newest, l.known = from, true
	goto greet

meet:
	l.newest, l.known = from, true
	if meant {
		l.phase, t.Up = api.Up, true
	}

greet:
	put(l.hello())
	goto end

word:
	t.Heard = true
	t.Body = l.brought(p)
	l.acknowledged(p.Ack, put)
	if p.Kind == api.PData {
		put(l.word(api.PAck))
	}

end:
	return t
}

// brought: the signal that p brings, if it is the next one.
func (l *Link) brought(p api.Packet) []byte {
	if p.Kind != api.PData || p.Seq != l.expected {
		return nil
	}
	l.expected++
	return bytes.Clone(p.Body)
}

// acknowledged: the other end has all ahead of the number ack. What then finds
// room in the window is sent.
func (l *Link) acknowledged(ack uint32, put func(api.Packet)) {
	was, k := l.sent(), serial.Ahead(l.base, ack)
	if k == 0 || k > uint32(was) {
		return
	}
	l.queue = slices.Delete(l.queue, 0, int(k))
	l.base += k
	l.idle = 0
	l.each(was-int(k), put)
}
