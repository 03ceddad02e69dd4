package mail_test

import (
	"strconv"
	"strings"
	"testing"

	"rookery/api"
	"rookery/mail"
	"rookery/term"
)

// both is a box and a plain row of messages that are told the same.
type both struct {
	t   *testing.T
	box *mail.Box
	row row
	did []string
}

func newBoth(t *testing.T) *both { return &both{t: t, box: mail.New()} }

// call: what both answer.
func (b *both) call(call string, x api.Term) string {
	b.t.Helper()
	b.did = append(b.did, callText(call, x))
	got, want := told(b.box, call, x), b.row.told(call, x)
	if got != want {
		b.t.Fatalf("%s: %s: %s; want %s", promiseOf(call), brief(strings.Join(b.did, "; ")), brief(got), brief(want))
	}
	return got
}

// callText: a wrong term may hold itself, so that it isn't shown.
func callText(call string, x api.Term) string {
	if call != "put" {
		return call
	}
	if term.Check(x) != api.OK {
		return "put what is wrong"
	}
	return "put " + brief(show(x))
}

func promiseOf(call string) string {
	if call == "len" || call == "all" {
		return "P21.2"
	}
	return "P21.1"
}

// look: what can be asked without changing anything.
func (b *both) look() {
	b.t.Helper()
	for _, call := range strings.Fields("len all peek") {
		b.call(call, api.Term{})
	}
}

// play: steps with "; " between two, each a call or "call > answer", which may
// be done a number of times: "3 times next > ok". With looks ahead of each step
// and behind it, and, once more, without.
func play(t *testing.T, steps string) {
	t.Helper()
	for _, looks := range []bool{true, false} {
		b := newBoth(t)
		for step := range strings.SplitSeq(steps, "; ") {
			call, want, asked := strings.Cut(step, " > ")
			times := 1
			if n, rest, ok := strings.Cut(call, " times "); ok {
				times, call = atoi(n), rest
			}
			for range times {
				if looks {
					b.look()
				}
				b.step(call, want, asked)
			}
		}
		b.look()
	}
}

func (b *both) step(call, want string, asked bool) {
	b.t.Helper()
	name, text, _ := strings.Cut(call, " ")
	var x api.Term
	if text != "" {
		x = read(text)
	}
	if got := b.call(name, x); asked && got != want {
		b.t.Fatalf("%s: %s: %s; want %s", promiseOf(name), brief(strings.Join(b.did, "; ")), brief(got), brief(want))
	}
}

// filled: steps that put the numbers 1 .. n.
func filled(n int) string {
	out := ""
	for i := range n {
		out += "put " + strconv.Itoa(i+1) + " > ok; "
	}
	return out
}
