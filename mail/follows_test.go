package mail_test

import (
	"slices"
	"testing"

	"rookery/api"
	"rookery/mail"
	"rookery/term"
)

// post is a box whose messages are numbered as they are put, and what was seen
// of it from outside.
type post struct {
	t          *testing.T
	box        *mail.Box
	put        int
	taken      []int
	over, most int // how many were passed over since the last Take or Again; the most messages there were
}

func (p *post) message(n int) api.Term { return term.Tuple(term.Atom("message"), term.Int(int64(n))) }

func (p *post) number(x api.Term) int {
	p.t.Helper()
	if x.Kind != api.KTuple || len(x.L) != 2 || !sameTerm(x, p.message(int(x.L[1].N))) {
		p.t.Fatalf("P21.3: no message that was put: %s", show(x))
	}
	return int(x.L[1].N)
}

// there: the numbers of the messages that are there.
func (p *post) there() []int {
	p.t.Helper()
	var out []int
	for _, x := range p.box.All() {
		out = append(out, p.number(x))
	}
	return out
}

// act: one call more.
func (p *post) act(call string) {
	p.t.Helper()
	switch call {
	case "put":
		if p.box.Put(p.message(p.put)) == api.OK {
			p.put++
		}
	case "next":
		if p.box.Next() == api.OK {
			p.over++
		}
	case "take":
		if x, e := p.box.Take(); e == api.OK {
			p.taken = append(p.taken, p.number(x))
			p.over = 0
		}
	case "again":
		p.box.Again()
		p.over = 0
	}
}

// hold: each message that was put is there till it is taken, once; the one put
// earlier stands ahead; what is passed over is there still.
func (p *post) hold() {
	p.t.Helper()
	there := p.there()
	p.most = max(p.most, len(there))
	if !slices.IsSorted(there) {
		p.t.Fatalf("P21.3: the one put earlier doesn't stand ahead: %v", there)
	}
	all := slices.Sorted(slices.Values(append(slices.Clone(p.taken), there...)))
	if len(all) != p.put {
		p.t.Fatalf("P21.3: %d were put, %d taken, %d are there", p.put, len(p.taken), len(there))
	}
	for i, n := range all {
		if i != n {
			p.t.Fatalf("P21.3: the message %d is there, or was taken, more than once", min(i, n))
		}
	}
	if x, ok := p.box.Peek(); ok != (p.over < len(there)) || ok && p.number(x) != there[p.over] {
		p.t.Fatalf("P21.3: with %d of %v passed over Peek is %s, %v", p.over, there, show(x), ok)
	}
}

func TestP21_3LongScripts(t *testing.T) {
	m := newMaker(3)
	most, taken := 0, 0
	for range 50 {
		p := &post{t: t, box: mail.New()}
		for range 40 {
			puts := m.Intn(10)
			for range m.Intn(60) {
				p.act(m.call(puts))
			}
			p.hold()
		}
		for range m.Intn(100) {
			p.act(m.call(1))
			p.hold()
		}
		most, taken = max(most, p.most), taken+len(p.taken)
	}
	if most != 256 || taken < 4000 {
		t.Errorf("there were %d messages at most, and %d were taken", most, taken)
	}
}

// What is put comes out by Takes alone in the order in which it was put.
func TestP21_3TakesAloneKeepTheOrder(t *testing.T) {
	m := newMaker(4)
	for range 300 {
		p := &post{t: t, box: mail.New()}
		for range 600 {
			p.act(pick(m, "put", "put", "take"))
		}
		for p.box.Len() > 0 {
			p.act("take")
		}
		p.hold()
		if !slices.IsSorted(p.taken) || len(p.taken) != p.put {
			t.Fatalf("P21.3: %d were put, and taken: %v", p.put, p.taken)
		}
	}
}

// One message is waited for among others, as a process does it: the others are
// there still, in their order, and are found later.
func TestP21_3WaitedFor(t *testing.T) {
	m := newMaker(5)
	for range 120 {
		p := &post{t: t, box: mail.New()}
		n := 1 + m.Intn(256)
		for range n {
			p.act("put")
		}
		for _, wanted := range m.Perm(n)[:min(n, 20)] {
			for {
				x, ok := p.box.Peek()
				if !ok {
					t.Fatalf("P21.3: the message %d is not there any more", wanted)
				}
				if p.number(x) == wanted {
					break
				}
				p.act("next")
			}
			p.act("take")
			p.hold()
			if last := p.taken[len(p.taken)-1]; last != wanted {
				t.Fatalf("P21.3: Take: %d; want %d, which Peek told", last, wanted)
			}
		}
	}
}

// Peek, Next and Take speak of one message.
func TestP21_3OneMessage(t *testing.T) {
	m := newMaker(6)
	for range 3000 {
		b := mail.New()
		for range m.Intn(12) {
			b.Put(m.term(2))
		}
		for range m.Intn(8) {
			b.Next()
		}
		n := b.Len()
		x, ok := b.Peek()
		if m.Intn(2) == 0 {
			y, e := b.Take()
			if ok != (e == api.OK) || !sameTerm(x, y) || ok != (b.Len() == n-1) {
				t.Errorf("P21.3: Peek %s, %v; Take %s, %d", show(x), ok, show(y), e)
			}
		} else if e := b.Next(); ok != (e == api.OK) || b.Len() != n {
			t.Errorf("P21.3: Peek %s, %v; Next %d", show(x), ok, e)
		}
	}
}
