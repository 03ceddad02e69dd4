package ties_test

import (
	"math"
	"strings"
	"testing"

	"rookery/api"
	"rookery/term"
	"rookery/ties"
)

// The chapter's example.
func TestP22_4Example(t *testing.T) {
	play(t, "1.1.1", "link 2.1.5 > ok; watched 2.1.9 2.1.6 > ok; end a > exit 1.1.1 2.1.5 a, down 1.1.1 2.1.6 2.1.9 a; end a >; end b >; links >; theirs >")
	me, five, six, ref := idOf("1.1.1"), idOf("2.1.5"), idOf("2.1.6"), idOf("2.1.9")
	x := newTies(t, me)
	if x.Link(five) != api.OK || x.Watched(ref, six) != api.OK {
		t.Fatal("P22.1, P22.2: Link, Watched: not OK")
	}
	l := x.End(term.Atom("a"))
	if len(l) != 2 {
		t.Fatalf("P22.4: End: %v", l)
	}
	want := []api.Signal{{Kind: api.SExit, From: me, To: five, N: 1}, {Kind: api.SDown, From: me, To: six, Ref: ref}}
	for i, s := range l {
		w := want[i]
		if s.Kind != w.Kind || s.From != w.From || s.To != w.To || s.Ref != w.Ref || s.N != w.N || !sameTerm(s.T, term.Atom("a")) {
			t.Errorf("P22.4: End: signal %d: %v; want %v with a", i, s, w)
		}
	}
	if l := x.End(term.Atom("a")); len(l) != 0 {
		t.Errorf("P22.4: End once more: %v", l)
	}
}

// The chapter's numbers of errors, and the limit.
func TestP22_1Numbers(t *testing.T) {
	if api.ErrNil != 1 || api.ErrArg != 2 || api.ErrTiesFull != 220 || api.ErrTiesTwice != 221 || api.ErrTiesNone != 222 || api.MaxTies != 256 || api.SExit != 4 || api.SDown != 7 {
		t.Error("P22.1: an error's number, a kind's, or the limit is another one")
	}
}

// grid: ids with each part at its edges, in all ways.
func grid() []api.Id {
	var out []api.Id
	for _, node := range []int{math.MinInt, -64, -1, 0, 1, 2, 63, 64, 65, 128, 256 + 1, 1<<32 + 1, math.MaxInt} {
		for _, boot := range []uint32{0, 1, 2, math.MaxInt32, math.MaxUint32} {
			for _, n := range []uint64{0, 1, 2, 1 << 32, 1<<32 + 1, math.MaxInt64, 1 << 63, math.MaxUint64} {
				out = append(out, api.Id{Node: node, Boot: boot, N: n})
			}
		}
	}
	return out
}

// edges: an id that may be, and ids of which one part alone is at an edge.
func edges() (may, mayNot []string) {
	may = strings.Fields("2.1.1 1.1.2 64.1.1 2.4294967295.1 2.1.18446744073709551615 64.4294967295.18446744073709551615")
	mayNot = strings.Fields("0.1.1 -1.1.1 65.1.1 -9223372036854775808.1.1 9223372036854775807.1.1 1.0.1 2.0.1 64.0.1 1.1.0 2.1.0 64.4294967295.0 0.0.0 0.1.0 65.0.0")
	return may, mayNot
}

func TestP22_1New(t *testing.T) {
	for _, id := range grid() {
		x, e := ties.New(id)
		if ok := mayBe(id); ok != (x != nil) || ok != (e == api.OK) || !ok && e != api.ErrArg {
			t.Errorf("P22.1: New of %s: %p, %d", idText(id), x, e)
		}
	}
	may, mayNot := edges()
	for _, id := range may {
		play(t, id, "links >; mine >; theirs >; lost 1 >; lost 2 >; end a >")
	}
	for _, id := range mayNot {
		if x, e := ties.New(idOf(id)); x != nil || e != 2 {
			t.Errorf("P22.1: New of %s: %p, %d; want ErrArg", id, x, e)
		}
	}
	if newTies(t, idOf("1.1.1")) == newTies(t, idOf("1.1.1")) {
		t.Error("P22.1: New answers one address twice")
	}
}

// Each id in each place where one is handed in.
func TestP22_1Ids(t *testing.T) {
	for _, id := range grid() {
		for _, me := range []string{"1.1.1", "64.4294967295.18446744073709551615"} {
			b := newBoth(t, me)
			b.call(call{name: "link", other: id})
			b.call(call{name: "watch", ref: id, other: idOf("2.1.1")})
			b.call(call{name: "watch", ref: idOf("1.1.5"), other: id})
			b.call(call{name: "watched", ref: id, other: idOf("2.1.1")})
			b.call(call{name: "watched", ref: idOf("1.1.5"), other: id})
			b.look()
			b.call(call{name: "unwatched", ref: idOf("1.1.5"), other: id})
			b.call(call{name: "unwatched", ref: id, other: idOf("2.1.1")})
			b.call(call{name: "unwatch", ref: id})
			b.call(call{name: "unwatch", ref: idOf("1.1.5")})
			b.call(call{name: "unlink", other: id})
			b.look()
			if len(b.rows.ties) > 0 {
				t.Fatalf("P22.1: ties are left with %s", idText(id))
			}
		}
	}
}

// Where an id may not be, nothing else counts, and nothing has changed.
func TestP22_1IdsByWord(t *testing.T) {
	may, mayNot := edges()
	for _, id := range may {
		play(t, "1.1.1", "link "+id+" > ok; watch "+id+" "+id+" > ok; watched "+id+" "+id+" > ok; links > "+id+"; mine > "+id+" "+id+"; theirs > "+id+" "+id)
	}
	for _, id := range mayNot {
		play(t, "1.1.1", "link "+id+" > arg; links >; unlink "+id+" > none; lost 0 >; lost 2 >; end a >")
		play(t, "1.1.1", "watch "+id+" 2.1.1 > arg; watch 2.1.1 "+id+" > arg; watch "+id+" "+id+" > arg; mine >; unwatch "+id+" > none; unwatch 2.1.1 > none")
		play(t, "1.1.1", "watched "+id+" 2.1.1 > arg; watched 2.1.1 "+id+" > arg; watched "+id+" "+id+" > arg; theirs >; unwatched "+id+" 2.1.1 > none; unwatched 2.1.1 "+id+" > none; unwatched "+id+" "+id+" > none; end a >")
	}
}

func TestP22_1Link(t *testing.T) {
	play(t, "1.1.1", "link 2.1.5 > ok; links > 2.1.5; mine >; theirs >; link 2.1.5 > twice; link 2.1.5 > twice; links > 2.1.5")
	play(t, "1.1.1", "link 1.1.1 > arg; links >; link 1.1.2 > ok; link 1.2.1 > ok; link 2.1.1 > ok; link 1.1.1 > arg; links > 1.1.2, 1.2.1, 2.1.1")
	play(t, "3.2.1", "link 3.2.1 > arg; link 3.1.1 > ok; link 3.1.2 > ok; link 3.2.2 > ok; link 2.2.1 > ok; links > 2.2.1, 3.1.1, 3.1.2, 3.2.2")
	play(t, "1.1.1", "watch 1.1.5 2.1.1 > ok; watched 2.1.5 2.1.1 > ok; link 2.1.1 > ok; link 1.1.5 > ok; link 2.1.5 > ok; links > 1.1.5, 2.1.1, 2.1.5")
}

func TestP22_1Unlink(t *testing.T) {
	play(t, "1.1.1", "unlink 2.1.5 > none; link 2.1.5 > ok; unlink 2.1.6 > none; unlink 2.2.5 > none; unlink 3.1.5 > none; links > 2.1.5; unlink 2.1.5 > ok; unlink 2.1.5 > none; links >")
	play(t, "1.1.1", "link 2.1.5 > ok; unlink 2.1.5 > ok; link 2.1.5 > ok; links > 2.1.5; link 2.1.5 > twice; unlink 2.1.5 > ok; lost 2 >; end a >")
	play(t, "1.1.1", "unlink 1.1.1 > none; link 1.1.1 > arg; unlink 1.1.1 > none; unlink 0.0.0 > none")
	play(t, "1.1.1", "watch 2.1.5 2.1.5 > ok; watched 2.1.5 2.1.5 > ok; unlink 2.1.5 > none; link 2.1.5; unlink 2.1.5 > ok; mine > 2.1.5 2.1.5; theirs > 2.1.5 2.1.5; link 2.1.5; unwatch 2.1.5 > 2.1.5; unwatched 2.1.5 2.1.5 > ok; links > 2.1.5")
}

func TestP22_2Watch(t *testing.T) {
	play(t, "1.1.1", "watch 1.1.9 2.1.6 > ok; mine > 1.1.9 2.1.6; links >; theirs >; watch 1.1.9 2.1.6 > twice; watch 1.1.9 2.1.7 > twice; watch 1.1.9 1.1.1 > twice; mine > 1.1.9 2.1.6")
	play(t, "1.1.1", "watch 1.1.9 2.1.6 > ok; watch 1.1.8 2.1.6 > ok; watch 1.2.9 2.1.6 > ok; watch 2.1.9 2.1.6 > ok; mine > 1.1.8 2.1.6, 1.1.9 2.1.6, 1.2.9 2.1.6, 2.1.9 2.1.6")
	play(t, "1.1.1", "watch 1.1.9 1.1.1 > ok; mine > 1.1.9 1.1.1; watch 1.1.1 1.1.1 > ok; mine > 1.1.1 1.1.1, 1.1.9 1.1.1; unwatch 1.1.9 > 1.1.1; unwatch 1.1.1 > 1.1.1")
	play(t, "1.1.1", "watched 1.1.9 2.1.6 > ok; watch 1.1.9 2.1.6 > ok; link 1.1.9 > ok; watch 1.1.9 2.1.7 > twice; mine > 1.1.9 2.1.6")
	play(t, "1.1.1", "link 1.1.9 > ok; watch 1.1.9 1.1.9 > ok; watch 1.1.9 1.1.9 > twice")
}

func TestP22_2Unwatch(t *testing.T) {
	play(t, "1.1.1", "unwatch 1.1.9 > none; watch 1.1.9 2.1.6 > ok; unwatch 1.1.8 > none; unwatch 1.2.9 > none; unwatch 2.1.9 > none; unwatch 2.1.6 > none; mine > 1.1.9 2.1.6; unwatch 1.1.9 > 2.1.6; unwatch 1.1.9 > none; mine >")
	play(t, "1.1.1", "watch 1.1.9 2.1.6; unwatch 1.1.9 > 2.1.6; watch 1.1.9 3.1.7 > ok; mine > 1.1.9 3.1.7; watch 1.1.9 2.1.6 > twice; unwatch 1.1.9 > 3.1.7; lost 2 >; lost 3 >")
	play(t, "1.1.1", "watched 1.1.9 2.1.6; unwatch 1.1.9 > none; link 1.1.9; unwatch 1.1.9 > none; theirs > 1.1.9 2.1.6; links > 1.1.9; watch 1.1.9 2.1.8; unwatch 1.1.9 > 2.1.8; theirs > 1.1.9 2.1.6; links > 1.1.9")
}

func TestP22_2Watched(t *testing.T) {
	play(t, "1.1.1", "watched 2.1.9 2.1.6 > ok; theirs > 2.1.9 2.1.6; links >; mine >; watched 2.1.9 2.1.6 > twice; watched 2.1.9 2.1.7 > twice; watched 2.1.9 1.1.1 > twice; theirs > 2.1.9 2.1.6")
	play(t, "1.1.1", "watched 2.1.9 2.1.6 > ok; watched 2.1.8 2.1.6 > ok; watched 2.2.9 2.1.6 > ok; watched 3.1.9 2.1.6 > ok; theirs > 2.1.8 2.1.6, 2.1.9 2.1.6, 2.2.9 2.1.6, 3.1.9 2.1.6")
	play(t, "1.1.1", "watched 1.1.9 1.1.1 > ok; watch 1.1.9 1.1.1 > ok; mine > 1.1.9 1.1.1; theirs > 1.1.9 1.1.1; end a > down 1.1.1 1.1.1 1.1.9 a; mine >; theirs >")
	play(t, "1.1.1", "watch 2.1.9 2.1.6 > ok; watched 2.1.9 2.1.6 > ok; watched 2.1.9 2.1.6 > twice; link 2.1.9 > ok; theirs > 2.1.9 2.1.6; unwatch 2.1.9 > 2.1.6; watched 2.1.9 2.1.6 > twice")
}

func TestP22_2Unwatched(t *testing.T) {
	play(t, "1.1.1", "unwatched 2.1.9 2.1.6 > none; watched 2.1.9 2.1.6; unwatched 2.1.8 2.1.6 > none; unwatched 2.1.9 2.1.7 > none; unwatched 2.1.9 2.2.6 > none; unwatched 2.1.9 3.1.6 > none; unwatched 2.2.9 2.1.6 > none; unwatched 3.1.9 2.1.6 > none; unwatched 2.1.6 2.1.9 > none; theirs > 2.1.9 2.1.6; unwatched 2.1.9 2.1.6 > ok; unwatched 2.1.9 2.1.6 > none; theirs >")
	play(t, "1.1.1", "watched 2.1.9 2.1.6; unwatched 2.1.9 2.1.6 > ok; watched 2.1.9 2.1.7 > ok; unwatched 2.1.9 2.1.6 > none; unwatched 2.1.9 2.1.7 > ok; end a >")
	play(t, "1.1.1", "watched 2.1.9 2.1.6; watched 2.1.8 2.1.7; unwatched 2.1.9 2.1.7 > none; unwatched 2.1.8 2.1.6 > none; theirs > 2.1.8 2.1.7, 2.1.9 2.1.6; unwatched 2.1.8 2.1.7 > ok; theirs > 2.1.9 2.1.6")
	play(t, "1.1.1", "watch 2.1.9 2.1.6; unwatched 2.1.9 2.1.6 > none; mine > 2.1.9 2.1.6; watched 2.1.9 2.1.6; unwatched 2.1.9 2.1.6 > ok; mine > 2.1.9 2.1.6; unwatched 0.0.0 0.0.0 > none; unwatched 2.1.5 0.0.0 > none")
}

// The 257th tie is refused, of whichever kinds there are; of an error ahead of
// that one too, it is that; behind what is undone there is room for one again.
func TestP22_1Full(t *testing.T) {
	full := "link 9.9.9 > full; watch 9.9.9 2.1.1 > full; watched 9.9.9 2.1.1 > full"
	full += "; link 1.1.1 > arg; link 65.1.1 > arg; link 0.0.0 > arg; watch 1.1.0 2.1.1 > arg; watch 9.9.9 65.1.1 > arg; watched 1.0.1 2.1.1 > arg; watched 9.9.9 0.1.1 > arg"
	full += "; unlink 9.9.9 > none; unwatch 9.9.9 > none; unwatched 9.9.9 2.1.1 > none; lost 1 >; end Wrong >"
	one := []string{"link 9.9.9 > ok", "watch 9.9.9 9.9.9 > ok", "watched 9.9.9 9.9.9 > ok"}
	for _, parts := range [][3]int{{256, 0, 0}, {0, 256, 0}, {0, 0, 256}, {100, 100, 56}, {1, 1, 254}, {128, 0, 128}, {254, 1, 1}} {
		var steps []string
		undo := ""
		for i, name := range []string{"link", "watch", "watched"} {
			if parts[i] == 0 {
				continue
			}
			steps = append(steps, many(name, parts[i], 1000))
			full := "; " + name + " 2.1.1000"
			if name != "link" {
				full = "; " + name + " 1.1.1000 2.1.1000 > twice; " + name + " 1.1.1000 5.5.5"
			}
			undo += full + " > twice"
		}
		all := strings.Join(steps, "; ") + undo + "; " + full
		play(t, "1.1.1", all)
		for _, more := range one {
			if parts[0] > 0 {
				play(t, "1.1.1", all+"; unlink 2.1.1000 > ok; "+more+"; "+full2(more)+"; link 2.1.1000 > full")
			}
			if parts[1] > 0 {
				play(t, "1.1.1", all+"; unwatch 1.1.1000 > 2.1.1000; "+more+"; "+full2(more)+"; watch 1.1.1000 2.1.1000 > full")
			}
			if parts[2] > 0 {
				play(t, "1.1.1", all+"; unwatched 1.1.1000 2.1.1000 > ok; "+more+"; "+full2(more)+"; watched 1.1.1000 2.1.1000 > full")
			}
			play(t, "1.1.1", all+"; lost 64; "+more+"; lost 9; "+more)
			play(t, "1.1.1", all+"; end a; "+more+"; "+strings.Join(steps, "; ")[:strings.LastIndex(strings.Join(steps, "; "), "; ")]+"; "+full2(more))
		}
	}
}

// full2: what there is no room for behind the last one.
func full2(more string) string {
	name, _, _ := strings.Cut(more, " ")
	if name == "link" {
		return "link 9.9.9 > twice; link 9.9.10 > full; watch 9.9.9 9.9.9 > full; watched 9.9.9 9.9.9 > full"
	}
	return name + " 9.9.9 2.1.1 > twice; " + name + " 9.9.8 9.9.9 > full; link 9.9.9 > full"
}

// Rising by Node, then Boot, then N.
func TestP22_3Rising(t *testing.T) {
	up := "1.1.1 1.1.2 1.1.10 1.1.4294967296 1.1.9223372036854775808 1.1.18446744073709551615 1.2.1 1.10.1 1.2147483648.1 1.4294967295.1 2.1.1 2.1.3 2.3.1 10.1.1 64.1.1 64.4294967295.18446744073709551615"
	ids := strings.Fields(up)
	for i := range ids {
		for j := range ids {
			if i == j {
				continue
			}
			a, b := ids[min(i, j)], ids[max(i, j)]
			play(t, "7.7.7", "link "+ids[i]+"; link "+ids[j]+"; links > "+a+", "+b+"; end x > exit 7.7.7 "+a+" x, exit 7.7.7 "+b+" x")
			play(t, "7.7.7", "watch "+ids[i]+" 2.1.1; watch "+ids[j]+" 2.1.1; mine > "+a+" 2.1.1, "+b+" 2.1.1; lost 2 > down 2.1.1 7.7.7 "+a+" noconnection, down 2.1.1 7.7.7 "+b+" noconnection")
			play(t, "7.7.7", "watched "+ids[i]+" 2.1.1; watched "+ids[j]+" 2.1.1; theirs > "+a+" 2.1.1, "+b+" 2.1.1; end x > down 7.7.7 2.1.1 "+a+" x, down 7.7.7 2.1.1 "+b+" x")
		}
	}
}

// The order is that of the refs, not of the processes, and not of the coming.
func TestP22_3ByRefs(t *testing.T) {
	play(t, "1.1.1", "watch 1.1.3 2.1.1; watch 1.1.1 2.1.3; watch 1.1.2 2.1.2; mine > 1.1.1 2.1.3, 1.1.2 2.1.2, 1.1.3 2.1.1; lost 2 > down 2.1.3 1.1.1 1.1.1 noconnection, down 2.1.2 1.1.1 1.1.2 noconnection, down 2.1.1 1.1.1 1.1.3 noconnection")
	play(t, "1.1.1", "watched 2.1.3 2.1.1; watched 2.1.1 2.1.3; watched 2.1.2 2.1.2; theirs > 2.1.1 2.1.3, 2.1.2 2.1.2, 2.1.3 2.1.1; end a > down 1.1.1 2.1.3 2.1.1 a, down 1.1.1 2.1.2 2.1.2 a, down 1.1.1 2.1.1 2.1.3 a")
	play(t, "1.1.1", "link 2.1.3; link 2.1.1; link 2.1.2; links > 2.1.1, 2.1.2, 2.1.3; unlink 2.1.2; links > 2.1.1, 2.1.3; link 2.1.2; links > 2.1.1, 2.1.2, 2.1.3")
}

// With none, and with 256.
func TestP22_3Many(t *testing.T) {
	play(t, "1.1.1", "links >; mine >; theirs >")
	for _, name := range []string{"link", "watch", "watched"} {
		b := newBoth(t, "1.1.1")
		for step := range strings.SplitSeq(many(name, 256, 1), "; ") {
			text, _, _ := strings.Cut(step, " >")
			b.call(callOf(text))
		}
		b.look()
		if n := len(b.ties.Links()) + len(b.ties.Mine()) + len(b.ties.Theirs()); n != 256 {
			t.Errorf("P22.3: %d ties by %s; want 256", n, name)
		}
		b.call(callOf("lost 3"))
		b.look()
		b.call(callOf("end {reason,[1]}"))
		b.look()
	}
}

// The links' signals ahead of the monitors'; one's own monitors go in silence.
func TestP22_4End(t *testing.T) {
	play(t, "3.2.1", "watched 1.1.1 1.1.1; link 9.1.1; watch 3.2.5 4.1.1; watched 9.9.9 4.1.1; link 4.1.1; end {bad,7} > exit 3.2.1 4.1.1 {bad,7}, exit 3.2.1 9.1.1 {bad,7}, down 3.2.1 1.1.1 1.1.1 {bad,7}, down 3.2.1 4.1.1 9.9.9 {bad,7}; links >; mine >; theirs >; end {bad,7} >; lost 4 >; unlink 9.1.1 > none; unwatch 3.2.5 > none; unwatched 9.9.9 4.1.1 > none")
	play(t, "1.1.1", "end normal >; watch 1.1.5 2.1.1; end normal >; mine >; unwatch 1.1.5 > none; lost 2 >")
	play(t, "1.1.1", "link 2.1.1; end a > exit 1.1.1 2.1.1 a; link 2.1.1 > ok; end b > exit 1.1.1 2.1.1 b; watch 1.1.5 2.1.1 > ok; watched 1.1.5 2.1.1 > ok; end c > down 1.1.1 2.1.1 1.1.5 c")
	play(t, "1.1.1", "link 2.1.1; watched 2.1.7 2.1.1; watched 2.1.8 2.1.1; end a > exit 1.1.1 2.1.1 a, down 1.1.1 2.1.1 2.1.7 a, down 1.1.1 2.1.1 2.1.8 a")
}

// Each right term is a reason.
func TestP22_4EndRight(t *testing.T) {
	for _, x := range rightTerms() {
		b := newBoth(t, "1.1.1")
		for _, s := range []string{"link 2.1.1", "watched 2.1.9 1.1.5", "watch 1.1.6 2.1.1", "link 1.1.2"} {
			b.call(callOf(s))
		}
		if got := b.call(call{name: "end", reason: x}); strings.Count(got, show(x)) < 3 {
			t.Errorf("P22.4: End for %s: %s", brief(show(x)), brief(got))
		}
		b.look()
		b.call(call{name: "end", reason: x})
		for _, s := range b.ties.End(x) {
			t.Errorf("P22.4: End once more: a signal of kind %d", s.Kind)
		}
	}
}

// Of what is no right term nothing comes, and nothing has changed.
func TestP22_4EndWrong(t *testing.T) {
	for fault, l := range wrongTerms() {
		for _, x := range l {
			if e := term.Check(x); e != fault {
				t.Fatalf("P2.2: Check of a wrong term: %d; want %d", e, fault)
			}
			b := newBoth(t, "1.1.1")
			b.call(call{name: "end", reason: x})
			for _, s := range []string{"link 2.1.1", "watched 2.1.9 1.1.5", "watch 1.1.6 2.1.1", "link 1.1.2"} {
				b.call(callOf(s))
			}
			for range 2 {
				if l := b.ties.End(x); len(l) != 0 {
					t.Errorf("P22.4: End for a wrong term of kind %d: %d signals", x.Kind, len(l))
				}
				b.call(call{name: "end", reason: x})
				b.look()
			}
			if got := b.call(callOf("end a")); got != "exit 1.1.1 1.1.2 a, exit 1.1.1 2.1.1 a, down 1.1.1 1.1.5 2.1.9 a" {
				t.Errorf("P22.4: End behind one for a wrong term: %s", got)
			}
		}
	}
}

// Links first, then one's own monitors; others' monitors go in silence; ties
// with other nodes stay.
func TestP22_5Lost(t *testing.T) {
	made := "link 3.1.2; link 2.1.5; link 2.1.4; watch 1.1.9 2.1.6; watch 1.1.8 2.1.4; watch 1.1.7 3.1.1; watched 2.1.9 2.1.6; watched 3.1.9 3.1.1; watched 2.1.8 3.1.1; "
	left := "links > 3.1.2; mine > 1.1.7 3.1.1; theirs > 2.1.8 3.1.1, 3.1.9 3.1.1; "
	play(t, "1.1.1", made+"lost 2 > exit 2.1.4 1.1.1 noconnection, exit 2.1.5 1.1.1 noconnection, down 2.1.4 1.1.1 1.1.8 noconnection, down 2.1.6 1.1.1 1.1.9 noconnection; "+left+"lost 2 >; "+left+"end a > exit 1.1.1 3.1.2 a, down 1.1.1 3.1.1 2.1.8 a, down 1.1.1 3.1.1 3.1.9 a")
	play(t, "1.1.1", made+"lost 3 > exit 3.1.2 1.1.1 noconnection, down 3.1.1 1.1.1 1.1.7 noconnection; links > 2.1.4, 2.1.5; mine > 1.1.8 2.1.4, 1.1.9 2.1.6; theirs > 2.1.9 2.1.6; lost 3 >; unlink 3.1.2 > none; unwatch 1.1.7 > none; unwatched 2.1.8 3.1.1 > none; unwatched 3.1.9 3.1.1 > none; watched 2.1.8 4.1.1 > ok")
	for _, node := range []string{"4", "1", "64", "0", "-1", "65", "-2", "258", "4294967298", "9223372036854775807", "-9223372036854775808"} {
		play(t, "1.1.1", "lost "+node+" >; "+made+"lost "+node+" >; links > 2.1.4, 2.1.5, 3.1.2; mine > 1.1.7 3.1.1, 1.1.8 2.1.4, 1.1.9 2.1.6; theirs > 2.1.8 3.1.1, 2.1.9 2.1.6, 3.1.9 3.1.1")
	}
}

// The node is that of the other process, not that of the ref, and of any boot.
func TestP22_5LostByProcess(t *testing.T) {
	play(t, "1.1.1", "watch 2.1.9 3.1.6; watched 2.1.9 3.1.6; lost 2 >; mine > 2.1.9 3.1.6; theirs > 2.1.9 3.1.6; lost 3 > down 3.1.6 1.1.1 2.1.9 noconnection; mine >; theirs >; end a >")
	play(t, "1.1.1", "link 2.1.5; link 2.7.5; link 2.4294967295.1; watch 1.1.1 2.3.1; lost 2 > exit 2.1.5 1.1.1 noconnection, exit 2.7.5 1.1.1 noconnection, exit 2.4294967295.1 1.1.1 noconnection, down 2.3.1 1.1.1 1.1.1 noconnection; links >")
	play(t, "1.1.1", "watched 2.1.9 2.1.6; lost 2 >; theirs >; unwatched 2.1.9 2.1.6 > none; watched 2.1.9 3.1.6 > ok; end a > down 1.1.1 3.1.6 2.1.9 a")
	play(t, "1.1.1", "link 64.1.1; link 1.1.5; watch 1.1.8 1.1.1; watch 1.1.9 64.1.1; watched 1.1.8 1.1.1; lost 1 > exit 1.1.5 1.1.1 noconnection, down 1.1.1 1.1.1 1.1.8 noconnection; links > 64.1.1; mine > 1.1.9 64.1.1; theirs >; lost 64 > exit 64.1.1 1.1.1 noconnection, down 64.1.1 1.1.1 1.1.9 noconnection; end a >")
	play(t, "1.1.1", "link 2.1.5; lost 2 > exit 2.1.5 1.1.1 noconnection; link 2.1.5 > ok; lost 2 > exit 2.1.5 1.1.1 noconnection; unlink 2.1.5 > none")
}

// R5: a nil *Ties answers ErrNil, ahead of all else, or nothing.
func TestR5Nil(t *testing.T) {
	var x *ties.Ties
	for _, id := range grid() {
		other, e := x.Unwatch(id)
		if e != 1 || other != (api.Id{}) {
			t.Errorf("R5: Unwatch of a nil *Ties: %s, %d", idText(other), e)
		}
		for i, e := range []api.Errno{x.Link(id), x.Unlink(id), x.Watch(id, id), x.Watched(id, id), x.Unwatched(id, id), x.Watch(id, idOf("1.1.1")), x.Watched(idOf("1.1.1"), id)} {
			if e != 1 {
				t.Errorf("R5: call %d of a nil *Ties with %s: %d; want ErrNil", i, idText(id), e)
			}
		}
		if l := x.Lost(id.Node); len(l) > 0 {
			t.Errorf("R5: Lost of a nil *Ties: %v", l)
		}
	}
	if len(x.Links()) > 0 || len(x.Mine()) > 0 || len(x.Theirs()) > 0 {
		t.Error("R5: a nil *Ties has ties")
	}
	for _, r := range rightTerms() {
		if l := x.End(r); len(l) > 0 {
			t.Errorf("R5: End of a nil *Ties: %d signals", len(l))
		}
	}
	for _, l := range wrongTerms() {
		for _, r := range l {
			if l := x.End(r); len(l) > 0 {
				t.Errorf("R5: End of a nil *Ties: %d signals", len(l))
			}
		}
	}
}
