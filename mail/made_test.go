package mail_test

import (
	"strings"
	"testing"

	"rookery/api"
	"rookery/term"
)

// Long random scripts of all calls, with few messages and with many, against a
// plain row.
func TestP21_1RandomScripts(t *testing.T) {
	m := newMaker(1)
	for range 2500 {
		b := newBoth(t)
		for puts := range 9 {
			for range 5 + m.Intn(20) {
				x := m.term(3)
				if m.Intn(6) == 0 {
					x = m.spoilt(x)
				}
				b.call(m.call(puts), x)
			}
		}
		b.look()
	}
}

// Scripts of a box that is full or nearly so.
func TestP21_1RandomScriptsOfFullBoxes(t *testing.T) {
	m := newMaker(2)
	full := 0
	for range 60 {
		b := newBoth(t)
		for i := range 250 {
			b.call("put", term.Int(int64(i)))
		}
		for range m.Intn(260) {
			b.call("next", api.Term{})
		}
		for i := range 400 {
			x := term.Int(int64(1000 + i))
			if m.Intn(10) == 0 {
				x = m.spoilt(x)
			}
			call := m.call(3)
			if call == "again" && m.Intn(4) > 0 {
				call = "next"
			}
			if b.call(call, x) == "full" {
				full++
			}
		}
		b.look()
	}
	if full < 1000 {
		t.Errorf("only %d Puts met a full box", full)
	}
}

// All short scripts: each thing that can be done behind each other one.
func TestP21_1ShortScripts(t *testing.T) {
	var acts = strings.Fields("put next take again wrong")
	var grow func(script []string)
	grow = func(script []string) {
		if len(script) == 7 {
			b := newBoth(t)
			for i, act := range script {
				x := term.Int(int64(i))
				if act == "wrong" {
					act, x = "put", term.Atom("Wrong")
				}
				b.call(act, x)
				b.look()
			}
			return
		}
		for _, act := range acts {
			grow(append(script, act))
		}
	}
	grow(nil)
}

// All boxes of few messages, with any number of them passed over, taken out in
// any order.
func TestP21_1TakenInAnyOrder(t *testing.T) {
	var grow func(n int, order []int)
	grow = func(n int, order []int) {
		if n == 0 {
			b := newBoth(t)
			for i := range order {
				b.call("put", term.Int(int64(i)))
			}
			for _, at := range order {
				for range at {
					b.call("next", api.Term{})
				}
				b.call("take", api.Term{})
				b.look()
			}
			return
		}
		for at := range n {
			grow(n-1, append(order, at))
		}
	}
	for n := range 7 {
		grow(n, nil)
	}
}
