package ties_test

import (
	"slices"
	"testing"

	"rookery/api"
	"rookery/term"
	"rookery/ties"
)

// bond is what ties two processes of a world, of both of which each has a tie:
// a link of a and b, or a's monitor of b, which has a ref.
type bond struct {
	a, b, ref api.Id
}

func (x bond) isLink() bool { return x.ref == api.Id{} }

// told: how the end of the one is told to the other one, if it is.
func (x bond) told(of, to api.Id) (string, bool) {
	switch {
	case x.isLink() && (of == x.a && to == x.b || of == x.b && to == x.a):
		return "exit " + idText(of) + " " + idText(to), true
	case !x.isLink() && of == x.b && to == x.a:
		return "down " + idText(of) + " " + idText(to) + " " + idText(x.ref), true
	}
	return "", false
}

// world is processes that live, each with its ties, the bonds that are there,
// and what was told.
type world struct {
	t     *testing.T
	m     maker
	live  map[api.Id]*ties.Ties
	bonds []bond
	n     uint64
	heard int
}

func newWorld(t *testing.T, m maker) *world {
	w := &world{t: t, m: m, live: map[api.Id]*ties.Ties{}}
	for range 2 + m.Intn(10) {
		w.n++
		id := api.Id{Node: 1 + m.Intn(4), Boot: 1, N: w.n}
		w.live[id] = newTies(t, id)
	}
	return w
}

func (w *world) ok(what string, e api.Errno) {
	w.t.Helper()
	if e != api.OK {
		w.t.Fatalf("P22.6: %s: %d", what, e)
	}
}

// all: who lives, rising.
func (w *world) all() []api.Id {
	var out []api.Id
	for id := range w.live {
		out = append(out, id)
	}
	slices.SortFunc(out, func(a, b api.Id) int { return int(a.N) - int(b.N) })
	return out
}

func (w *world) some() api.Id { return pick(w.m, w.all()...) }

// link: two, unless they are linked; each gets its tie.
func (w *world) link() {
	a, b := w.some(), w.some()
	is := func(x bond) bool { return x.isLink() && (x.a == a && x.b == b || x.a == b && x.b == a) }
	if a == b || slices.ContainsFunc(w.bonds, is) {
		return
	}
	w.ok("Link", w.live[a].Link(b))
	w.ok("Link", w.live[b].Link(a))
	w.bonds = append(w.bonds, bond{a: a, b: b})
}

// watch: one another one, or itself, for the first time or once more.
func (w *world) watch() {
	a, b := w.some(), w.some()
	w.n++
	ref := api.Id{Node: a.Node, Boot: 1, N: w.n}
	w.ok("Watch", w.live[a].Watch(ref, b))
	w.ok("Watched", w.live[b].Watched(ref, a))
	w.bonds = append(w.bonds, bond{a, b, ref})
}

// undo: one bond is no more.
func (w *world) undo() {
	if len(w.bonds) == 0 {
		return
	}
	i := w.m.Intn(len(w.bonds))
	x := w.bonds[i]
	w.bonds = slices.Delete(w.bonds, i, i+1)
	if x.isLink() {
		w.ok("Unlink", w.live[x.a].Unlink(x.b))
		w.ok("Unlink", w.live[x.b].Unlink(x.a))
		return
	}
	w.unwatch(x.a, x.ref, x.b)
	w.ok("Unwatched", w.live[x.b].Unwatched(x.ref, x.a))
}

func (w *world) unwatch(a, ref, b api.Id) {
	w.t.Helper()
	if was, e := w.live[a].Unwatch(ref); e != api.OK || was != b {
		w.t.Fatalf("P22.6: Unwatch: %s, %d; want %s", idText(was), e, idText(b))
	}
}

// want: just this was told, in whatever order.
func (w *world) want(got []api.Signal, want []string) {
	w.t.Helper()
	var texts []string
	for _, s := range got {
		text := signalText(s)
		texts = append(texts, text[:len(text)-len(show(s.T))-1])
	}
	w.heard += len(texts)
	slices.Sort(texts)
	slices.Sort(want)
	if !slices.Equal(texts, want) {
		w.t.Fatalf("P22.6: told: %q; want %q", texts, want)
	}
}

// end: one ends, and its signals come to those that live.
func (w *world) end() {
	a := w.some()
	var want []string
	for _, x := range w.bonds {
		for _, to := range w.all() {
			if s, ok := x.told(a, to); ok {
				want = append(want, s)
			}
		}
	}
	l := w.live[a].End(term.Atom("over"))
	w.want(l, want)
	w.want(w.live[a].End(term.Atom("over")), nil)
	delete(w.live, a)
	for _, s := range l {
		switch {
		case s.To == a:
		case s.Kind == api.SExit:
			w.ok("Unlink", w.live[s.To].Unlink(a))
		default:
			w.unwatch(s.To, s.Ref, a)
		}
	}
	for _, x := range w.bonds {
		if !x.isLink() && x.a == a && x.b != a {
			w.ok("Unwatched", w.live[x.b].Unwatched(x.ref, a))
		}
	}
	w.forget(func(id api.Id) bool { return id == a })
}

// forget: the bonds with those that are gone.
func (w *world) forget(gone func(api.Id) bool) {
	w.bonds = slices.DeleteFunc(w.bonds, func(x bond) bool { return gone(x.a) || gone(x.b) })
}

// lose: a node with all its processes, of which those of other nodes hear.
func (w *world) lose(node int) {
	var gone, left []api.Id
	for _, id := range w.all() {
		if id.Node == node {
			gone = append(gone, id)
			delete(w.live, id)
		} else {
			left = append(left, id)
		}
	}
	for _, to := range left {
		var want []string
		for _, x := range w.bonds {
			for _, of := range gone {
				if s, ok := x.told(of, to); ok {
					want = append(want, s)
				}
			}
		}
		w.want(w.live[to].Lost(node), want)
		w.want(w.live[to].Lost(node), nil)
	}
	w.forget(func(id api.Id) bool { return id.Node == node })
}

// hold: each who lives has a tie of each bond, and no other ones.
func (w *world) hold() {
	w.t.Helper()
	has := map[api.Id]int{}
	for _, x := range w.bonds {
		has[x.a]++
		has[x.b]++
	}
	for id, x := range w.live {
		if n := len(x.Links()) + len(x.Mine()) + len(x.Theirs()); n != has[id] {
			w.t.Fatalf("P22.6: %s has %d ties; want %d", idText(id), n, has[id])
		}
	}
}

// Processes that tie themselves to one another, and go one by one or with their
// nodes: who is left hears of each just once, by each tie that was not undone.
func TestP22_6Worlds(t *testing.T) {
	m := newMaker(4)
	heard := 0
	for range 1500 {
		w := newWorld(t, m)
		for range 20 + m.Intn(100) {
			switch m.Intn(12) {
			case 0, 1, 2:
				w.link()
			case 3, 4, 5, 6:
				w.watch()
			case 7, 8, 9:
				w.undo()
			case 10:
				if len(w.live) > 1 && m.Intn(3) == 0 {
					w.end()
				}
			case 11:
				if node := 1 + m.Intn(5); m.Intn(6) == 0 && w.some().Node != node {
					w.lose(node)
				}
			}
			w.hold()
		}
		for len(w.live) > 0 {
			w.end()
			w.hold()
		}
		heard += w.heard
	}
	if heard < 5000 {
		t.Errorf("only %d signals were told", heard)
	}
}
