package serial_test

import (
	"slices"
	"testing"

	"rookery/serial"
)

// roomy: l anew, with spare room in which something stands.
func roomy(l []uint32) []uint32 {
	room := append(append(make([]uint32, 0, len(l)+5), l...), 9, last, 0, 1<<31, 3)
	return room[:len(l)]
}

// scramble writes into all memory of l, its spare room included.
func scramble(l []uint32) {
	room := l[:cap(l)]
	for i := range room {
		room[i] ^= 0x55555555
	}
}

// unchanged: is what was made of l by roomy still that, in its spare room too?
func unchanged(given, l []uint32) bool {
	return len(given) == len(l) && slices.Equal(given[:cap(given)], roomy(l)[:cap(given)])
}

// lists: of many lengths, in an order already, turned round, and in none.
func (m maker) lists() [][]uint32 {
	out := [][]uint32{nil, {}, {7}, {0, last}, {last, 0}, {3, 3}}
	for n := range 120 {
		l := m.numbers(n)
		out = append(out, l, askedSort(0, l), turned(askedSort(0, l)))
	}
	return out
}

func TestR3Lists(t *testing.T) {
	for _, base := range edges() {
		if got := serial.Sort(base, nil); len(got) != 0 {
			t.Errorf("R3: Sort(%d) of nil: %v", base, got)
		}
		if got := serial.Sort(base, roomy(nil)); len(got) != 0 {
			t.Errorf("R3: Sort(%d) of an empty list with spare room: %v", base, got)
		}
	}
}

func TestR4NothingIsChanged(t *testing.T) {
	m := newMaker(11)
	for i, l := range m.lists() {
		for _, base := range []uint32{0, last, m.number()} {
			given := roomy(l)
			serial.Sort(base, given)
			if !unchanged(given, l) {
				t.Errorf("R4: Sort(%d) changed what was handed in (%d)", base, i)
			}
		}
	}
}

// Spoiling what was handed in leaves the answers, and the other way about.
func TestR4AnswersApart(t *testing.T) {
	m := newMaker(12)
	for i, l := range m.lists() {
		for _, base := range []uint32{0, last, m.number()} {
			want := askedSort(base, l)
			given := roomy(l)
			first, second := serial.Sort(base, given), serial.Sort(base, given)
			scramble(first)
			if !unchanged(given, l) || !slices.Equal(second, want) {
				t.Errorf("R4: spoiling an answer of Sort(%d) spoils something else (%d)", base, i)
			}
			scramble(given)
			if !slices.Equal(second, want) {
				t.Errorf("R4: what Sort(%d) answers shares memory with the list (%d)", base, i)
			}
		}
	}
}

func TestR6TheSameAgain(t *testing.T) {
	m := newMaker(13)
	for i, l := range m.lists() {
		a, b, n := m.number(), m.number(), m.number()
		ahead, less, in, most, sorted := serial.Ahead(a, b), serial.Less(a, b), serial.In(a, n, b), serial.Max(a, b), serial.Sort(a, l)
		for range 3 {
			serial.Sort(m.number(), m.numbers(20))
			serial.In(m.number(), m.number(), m.number())
			wantTwo(t, m.number(), m.number())
			if ahead != serial.Ahead(a, b) || less != serial.Less(a, b) || in != serial.In(a, n, b) || most != serial.Max(a, b) || !slices.Equal(sorted, serial.Sort(a, roomy(l))) {
				t.Errorf("R6: the same was asked again, and something else was answered (%d)", i)
			}
		}
	}
}

// Lists on which a sort may be slow, or may not end.
func TestP1SortOfHardLists(t *testing.T) {
	const n = 1 << 20
	pipe, saw, one := make([]uint32, n), make([]uint32, n), make([]uint32, n)
	for i := range n {
		pipe[i], saw[i] = uint32(min(i, n-i)), uint32(i%1000)
	}
	for _, base := range []uint32{0, 500, 1 << 31, last} {
		for _, l := range [][]uint32{pipe, saw, one} {
			got := serial.Sort(base, l)
			if len(got) != n || !slices.IsSortedFunc(got, func(a, b uint32) int { return int(askedAhead(base, a) - askedAhead(base, b)) }) {
				t.Errorf("P1: Sort(%d) of 2^20 numbers %v", base, clip(l))
			}
		}
	}
}
