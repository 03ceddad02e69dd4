package ties_test

import (
	"strings"
	"testing"

	"rookery/api"
)

// aimed: c, but for an id of a tie that is there, so that it comes to something.
func (b *both) aimed(m maker, c call) call {
	if len(b.rows.ties) == 0 {
		return c
	}
	x := pick(m, b.rows.ties...)
	switch c.name {
	case "unlink", "link":
		c.other = x.name()
	case "unwatch":
		c.ref = x.ref
	case "unwatched", "watch", "watched":
		c.ref = x.ref
		if m.Intn(3) > 0 {
			c.other = x.other
		}
	}
	return c
}

// Long random scripts of all calls against plain rows of ties, of few ids, so
// that the same one comes again and again.
func TestP22_6RandomScripts(t *testing.T) {
	m := newMaker(1)
	heard := 0
	for range 1500 {
		b := newBoth(t, pick(m, "1.1.1", "2.1.2", "3.2.3", "64.1.1"))
		for makes := range 10 {
			for range 5 + m.Intn(25) {
				c := m.call(makes, m.id)
				if m.Intn(4) == 0 {
					c = b.aimed(m, c)
				}
				if m.Intn(25) == 0 {
					c = m.ending()
				}
				if got := b.call(c); c.name == "end" || c.name == "lost" {
					heard += strings.Count(got, "exit ") + strings.Count(got, "down ")
				}
			}
		}
		b.look()
	}
	if heard < 10000 {
		t.Errorf("only %d signals were heard", heard)
	}
}

// Scripts of a process that has as many ties as may be, or nearly so.
func TestP22_6RandomScriptsOfFullTies(t *testing.T) {
	m := newMaker(2)
	full := 0
	for range 60 {
		b := newBoth(t, "1.1.1")
		makes := m.Intn(3) + 7
		for range 900 {
			c := m.call(makes, m.wide)
			if m.Intn(4) == 0 || c.name[0] == 'u' && m.Intn(4) > 0 {
				c = b.aimed(m, c)
			}
			if m.Intn(150) == 0 {
				c = call{name: "lost", node: 1 + m.Intn(64)}
			}
			if b.call(c) == "full" {
				full++
			}
		}
		b.look()
		b.call(m.ending())
		b.look()
		b.call(call{name: "end", reason: m.term(3)})
		b.look()
	}
	if full < 1000 {
		t.Errorf("only %d calls met full ties", full)
	}
}

// All short scripts: each thing that can be done behind each other one.
func TestP22_6ShortScripts(t *testing.T) {
	var acts []call
	for _, s := range []string{"link 2.1.5", "link 3.1.5", "unlink 2.1.5", "watch 1.1.9 2.1.5", "watch 1.1.9 3.1.5", "unwatch 1.1.9", "watched 1.1.9 2.1.5", "watched 1.1.9 3.1.5", "unwatched 1.1.9 2.1.5", "end a", "lost 2"} {
		acts = append(acts, callOf(s))
	}
	var grow func(script []call)
	grow = func(script []call) {
		if len(script) == 5 {
			b := newBoth(t, "1.1.1")
			for _, c := range script {
				b.call(c)
			}
			b.look()
			b.call(callOf("lost 3"))
			b.call(callOf("end b"))
			b.look()
			return
		}
		for _, c := range acts {
			grow(append(script, c))
		}
	}
	grow(nil)
}

// Ids that differ in one part alone are apart, in each kind of ties.
func TestP22_3OnePartAlone(t *testing.T) {
	m := newMaker(3)
	for range 300 {
		b := newBoth(t, "1.1.1")
		base := m.wide()
		for range 60 {
			id := base
			switch m.Intn(3) {
			case 0:
				id.Node = 1 + m.Intn(64)
			case 1:
				id.Boot = m.wide().Boot
			case 2:
				id.N = m.wide().N
			}
			c := m.call(8, func() api.Id { return id })
			if m.Intn(2) == 0 {
				c.other = base
			}
			b.call(c)
		}
		b.look()
		b.call(call{name: "lost", node: base.Node})
		b.look()
		b.call(callOf("end a"))
	}
}
