package frame_test

import (
	"encoding/binary"
	"hash/crc32"
	"math/rand"
	"slices"
	"testing"

	"rookery/api"
	"rookery/frame"
)

// shaped: a frame of From, To, Boot and a Body of n bytes.
func shaped(from, to int, boot uint32, n int) api.Frame {
	f := api.Frame{From: from, To: to, Boot: boot}
	for i := range n {
		f.Body = append(f.Body, byte(i*7+n))
	}
	return f
}

// equal tells frames apart field by field; an empty Body is a nil one (R3).
func equal(a, b api.Frame) bool {
	return a.From == b.From && a.To == b.To && a.Boot == b.Boot && slices.Equal(a.Body, b.Body)
}

// summed: b, and its sum behind it, by the library's sum.
func summed(b []byte) []byte {
	return binary.LittleEndian.AppendUint32(slices.Clone(b), crc32.ChecksumIEEE(b))
}

// headed: the bytes of a frame, with any mark, nodes and boot.
func headed(mark0, mark1, from, to byte, boot uint32, body []byte) []byte {
	b := binary.BigEndian.AppendUint32([]byte{mark0, mark1, from, to}, boot)
	return summed(append(b, body...))
}

// clip: as much of bytes as a message needs.
func clip(b []byte) []byte { return b[:min(len(b), 24)] }

func wantSum(t *testing.T, what string, b []byte, want uint32) {
	t.Helper()
	if got := frame.Sum(b); got != want {
		t.Errorf("P6.1: %s: Sum of %d bytes %v: %d, not %d", what, len(b), clip(b), got, want)
	}
}

func wantCheck(t *testing.T, what string, f api.Frame, e api.Errno) {
	t.Helper()
	if got := frame.Check(f); got != e {
		t.Errorf("P6.1: %s: Check of %d, %d, %d and %d bytes: %d, not %d", what, f.From, f.To, f.Boot, len(f.Body), got, e)
	}
}

func wantPack(t *testing.T, what string, f api.Frame, want []byte, e api.Errno) {
	t.Helper()
	got, gotE := frame.Pack(f)
	if gotE != e || !slices.Equal(got, want) {
		t.Errorf("P6.1: %s: Pack of %d, %d, %d and %d bytes: %v, %d, not %v, %d", what, f.From, f.To, f.Boot, len(f.Body), clip(got), gotE, clip(want), e)
	}
}

func wantOpen(t *testing.T, what string, b []byte, want api.Frame, e api.Errno) {
	t.Helper()
	got, gotE := frame.Open(b)
	if gotE != e || !equal(got, want) {
		t.Errorf("P6.2: %s: Open of %d bytes %v: %v, %d, not %v, %d", what, len(b), clip(b), got, gotE, want, e)
	}
}

// wantWrong: neither Check nor Pack lets f pass.
func wantWrong(t *testing.T, what string, f api.Frame, e api.Errno) {
	t.Helper()
	wantCheck(t, what, f, e)
	wantPack(t, what, f, nil, e)
}

// wantRefused: Open answers e and nothing beside it.
func wantRefused(t *testing.T, what string, b []byte, e api.Errno) {
	t.Helper()
	wantOpen(t, what, b, api.Frame{}, e)
}

// maker makes frames and bytes, the same ones for the same seed.
type maker struct{ *rand.Rand }

func newMaker(seed int64) maker { return maker{rand.New(rand.NewSource(seed))} }

func (m maker) bytes(n int) []byte {
	b := make([]byte, n)
	m.Read(b)
	return b
}

// length: of a Body, often at an edge.
func (m maker) length() int {
	switch m.Intn(8) {
	case 0:
		return 0
	case 1:
		return api.MaxBody
	case 2:
		return m.Intn(api.MaxBody + 1)
	}
	return m.Intn(40)
}

func (m maker) boot() uint32 {
	switch m.Intn(4) {
	case 0:
		return 1
	case 1:
		return 1<<32 - 1
	}
	return max(m.Uint32(), 1)
}

// right: a frame that may be.
func (m maker) right() api.Frame {
	from := 1 + m.Intn(api.MaxNode)
	to := 1 + (from+m.Intn(api.MaxNode-1))%api.MaxNode
	return api.Frame{From: from, To: to, Boot: m.boot(), Body: m.bytes(m.length())}
}

// wrong: a frame in which one thing or more may not be.
func (m maker) wrong() api.Frame {
	f := m.right()
	for done := false; !done; done = m.Intn(2) == 0 {
		switch m.Intn(6) {
		case 0:
			f.From = []int{0, -1, 65, 256, 257, 1 << 30, -1 << 31}[m.Intn(7)]
		case 1:
			f.To = []int{0, -1, 65, 256, 257, 1 << 30, -1 << 31}[m.Intn(7)]
		case 2:
			f.To = f.From
		case 3, 4:
			f.Boot = 0
		case 5:
			f.Body = m.bytes(api.MaxBody + 1 + m.Intn(3))
		}
	}
	return f
}

// said: bytes that say a frame with a right sum; the frame seldom may be.
func (m maker) said() []byte {
	f := m.right()
	mark := []byte{82, 75}
	for range m.Intn(3) {
		switch m.Intn(6) {
		case 0:
			mark[m.Intn(2)] = byte(m.Intn(256))
		case 1:
			mark = []byte{75, 82}
		case 2:
			f.From = m.Intn(256)
		case 3:
			f.To = m.Intn(256)
		case 4:
			f.To = f.From
		case 5:
			f.Boot = 0
		}
	}
	return headed(mark[0], mark[1], byte(f.From), byte(f.To), f.Boot, f.Body)
}

// some: bytes of a frame, and what went wrong with them on the way.
func (m maker) some() []byte {
	b := m.said()
	switch m.Intn(8) {
	case 0:
		b[m.Intn(len(b))] ^= 1 << m.Intn(8)
	case 1:
		b = b[:m.Intn(len(b))]
	case 2:
		b = append(b, m.bytes(1+m.Intn(3))...)
	case 3:
		b = m.bytes(m.Intn(40))
	case 4:
		b = summed(m.bytes(m.Intn(1220)))
	}
	return b
}
