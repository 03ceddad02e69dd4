package ties_test

import (
	"fmt"
	"strings"
	"testing"

	"rookery/api"
	"rookery/term"
	"rookery/ties"
)

// both is the ties of a process and plain rows of ties that are told the same.
type both struct {
	t    *testing.T
	ties *ties.Ties
	rows rows
	did  []call
}

func newTies(t *testing.T, me api.Id) *ties.Ties {
	t.Helper()
	x, e := ties.New(me)
	if e != api.OK || x == nil {
		t.Fatalf("P22.1: New of %s: %d", idText(me), e)
	}
	return x
}

func newBoth(t *testing.T, me string) *both {
	t.Helper()
	return &both{t: t, ties: newTies(t, idOf(me)), rows: rows{me: idOf(me)}}
}

// call: what both answer.
func (b *both) call(c call) string {
	b.t.Helper()
	b.did = append(b.did, c)
	got, want := told(b.ties, c), b.rows.told(c)
	if got != want {
		b.fatal(c, got, want)
	}
	return got
}

func (b *both) fatal(c call, got, want string) {
	b.t.Helper()
	var did []string
	for _, d := range b.did {
		did = append(did, d.text())
	}
	b.t.Fatalf("%s: of %s: %s: %q; want %q", promiseOf(c.name), idText(b.rows.me), brief(strings.Join(did, "; ")), brief(got), brief(want))
}

func promiseOf(name string) string {
	for i, names := range []string{"link unlink", "watch unwatch watched unwatched", "links mine theirs", "end", "lost"} {
		if strings.Contains(" "+names+" ", " "+name+" ") {
			return fmt.Sprintf("P22.%d", i+1)
		}
	}
	panic("what is " + name)
}

// text: what callOf reads. A wrong term may hold itself, so that it isn't shown.
func (c call) text() string {
	switch c.name {
	case "link", "unlink":
		return c.name + " " + idText(c.other)
	case "watch", "watched", "unwatched":
		return c.name + " " + idText(c.ref) + " " + idText(c.other)
	case "unwatch":
		return c.name + " " + idText(c.ref)
	case "end":
		if term.Check(c.reason) != api.OK {
			return "end with what is wrong"
		}
		return "end " + brief(show(c.reason))
	case "lost":
		return fmt.Sprint("lost ", c.node)
	}
	return c.name
}

func callOf(s string) call {
	word := strings.Split(s, " ")
	c := call{name: word[0]}
	switch c.name {
	case "link", "unlink":
		c.other = idOf(word[1])
	case "watch", "watched", "unwatched":
		c.ref, c.other = idOf(word[1]), idOf(word[2])
	case "unwatch":
		c.ref = idOf(word[1])
	case "end":
		c.reason = read(word[1])
	case "lost":
		c.node = atoi(word[1])
	}
	return c
}

// look: what can be asked without changing anything.
func (b *both) look() {
	b.t.Helper()
	for _, name := range strings.Fields("links mine theirs") {
		b.call(call{name: name})
	}
}

// play: what the process of this id is told, step by step, with "; " between
// two, each a call or "call > answer"; with looks ahead of each step (in a long
// script of the last 40) and behind it, and, once more, without.
func play(t *testing.T, me, steps string) {
	t.Helper()
	l := strings.Split(steps, "; ")
	for _, looks := range []bool{true, false} {
		b := newBoth(t, me)
		for i, step := range l {
			if looks && i >= len(l)-40 {
				b.look()
			}
			text, want, asked := strings.Cut(step, " >")
			c := callOf(text)
			want = strings.TrimPrefix(want, " ")
			if got := b.call(c); asked && got != want {
				b.fatal(c, got, want)
			}
		}
		b.look()
	}
}

// many: steps that make n ties of a kind, at most 256, with processes of the
// nodes 2 to 64; the numbers of what they stand by begin with from, and are told
// in no order.
func many(name string, n, from int) string {
	var out []string
	for i := range n {
		at := uint64(from + i*101%257)
		other := api.Id{Node: 2 + i%63, Boot: 1 + uint32(i%3), N: at}
		step := name + " " + idText(other)
		if name != "link" {
			step = name + " " + idText(api.Id{Node: 1 + i%2, Boot: 1, N: at}) + " " + idText(other)
		}
		out = append(out, step+" > ok")
	}
	return strings.Join(out, "; ")
}
