package pair

import (
	"bytes"
	"math"

	"rookery/api"
	"rookery/link"
)

// half is one side: its end, which life it is in, and what it saw.
type half struct {
	boot uint32
	end  *link.Link
	log  []Entry
}

// begin: a life with nothing but the log of those before it.
func (h *half) begin(boot uint32) {
	h.boot = boot
	h.end, _ = link.New(boot) // It refuses 0 alone, which no boot is.
}

func (h *half) reboot() api.Errno {
	if h.boot == math.MaxUint32 {
		return api.ErrArg
	}
	h.begin(h.boot + 1)
	h.write(Entry{Kind: EntBoot, Boot: h.boot})
	return api.OK
}

func (h *half) write(e Entry) { h.log = append(h.log, e) }

// entry: one of the link as it is now.
func (h *half) entry(kind int) Entry {
	peer, yours := h.end.Peer()
	return Entry{Kind: kind, Boot: h.boot, Mine: h.end.Token(), Peer: peer, Yours: yours}
}

func (h *half) shut() {
	// Behind Shut the end knows no other end any more.
	was := h.entry(EntDown)
	if h.end.Shut() {
		h.write(was)
	}
}

func (h *half) send(b []byte) api.Errno {
	e := h.end.Send(b)
	if e == api.OK {
		sent := h.entry(EntSent)
		sent.Body = bytes.Clone(b)
		h.write(sent)
	}
	return e
}

func (h *half) take(boot uint32, p api.Packet) api.Errno {
	was := h.entry(EntDown)
	t, e := h.end.Take(boot, p)
	h.saw(was, t)
	return e
}

// saw writes what came of a packet; was is the entry of the link that was up
// until then, of which the end knows nothing any more.
func (h *half) saw(was Entry, t link.Taken) {
	if t.Down {
		h.write(was)
	}
	if t.Up {
		h.write(h.entry(EntUp))
	}
	if len(t.Body) > 0 {
		got := h.entry(EntGot)
		got.Body = t.Body
		h.write(got)
	}
}
