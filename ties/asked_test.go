package ties_test

import (
	"encoding/binary"
	"fmt"
	"slices"
	"strings"

	"rookery/api"
	"rookery/term"
	"rookery/ties"
)

// call is one call with its arguments; those that it doesn't have are zero.
type call struct {
	name       string
	ref, other api.Id
	reason     api.Term
	node       int
}

// told: what is answered, as a text. What stands beside an error is told only
// where it is not zero.
func told(x *ties.Ties, c call) string {
	switch c.name {
	case "link":
		return errorText(x.Link(c.other))
	case "unlink":
		return errorText(x.Unlink(c.other))
	case "watch":
		return errorText(x.Watch(c.ref, c.other))
	case "unwatch":
		other, e := x.Unwatch(c.ref)
		if e == api.OK {
			return idText(other)
		}
		return errorText(e) + beside(other)
	case "watched":
		return errorText(x.Watched(c.ref, c.other))
	case "unwatched":
		return errorText(x.Unwatched(c.ref, c.other))
	case "links":
		return textOf(x.Links(), idText)
	case "mine":
		return textOf(x.Mine(), tieText)
	case "theirs":
		return textOf(x.Theirs(), tieText)
	case "end":
		return textOf(x.End(c.reason), signalText)
	case "lost":
		return textOf(x.Lost(c.node), signalText)
	}
	panic("what is " + c.name)
}

func errorText(e api.Errno) string {
	switch e {
	case api.OK:
		return "ok"
	case 1:
		return "nil"
	case 2:
		return "arg"
	case 220:
		return "full"
	case 221:
		return "twice"
	case 222:
		return "none"
	}
	return fmt.Sprint("error ", int(e))
}

func beside(id api.Id) string {
	if id == (api.Id{}) {
		return ""
	}
	return " beside " + idText(id)
}

// textOf: the elements' texts, with a comma and a blank between two.
func textOf[T any](l []T, text func(T) string) string {
	var out []string
	for _, x := range l {
		out = append(out, text(x))
	}
	return strings.Join(out, ", ")
}

func tieText(x ties.Tie) string { return idText(x.Ref) + " " + idText(x.Other) }

// signalText: "exit FROM TO REASON", or "down FROM TO REF REASON"; what the
// chapter gives no such signal is told as odd.
func signalText(s api.Signal) string {
	out := fmt.Sprintf("signal %d", s.Kind)
	bare := api.Signal{Kind: s.Kind}
	switch s.Kind {
	case 4:
		out = "exit " + idText(s.From) + " " + idText(s.To)
		bare.N = 1
	case 7:
		out = "down " + idText(s.From) + " " + idText(s.To) + " " + idText(s.Ref)
		bare.Ref = s.Ref
	}
	if s.N != bare.N || s.Ref != bare.Ref {
		out += fmt.Sprintf(" with N %d and Ref %s", s.N, idText(s.Ref))
	}
	return out + " " + show(s.T)
}

// row is a tie as the chapter's words have it: "link", "mine" or "theirs"; a
// link's ref is zero.
type row struct {
	kind       string
	ref, other api.Id
}

// rows are the ties of one process, in the order in which they were made.
type rows struct {
	me   api.Id
	ties []row
}

// mayBe: as layer 2 says it of ids.
func mayBe(id api.Id) bool {
	return id.Node >= 1 && id.Node <= 64 && id.Boot >= 1 && id.N >= 1
}

// place: bytes whose order is that of ids that may be.
func place(id api.Id) string {
	out := binary.BigEndian.AppendUint32([]byte{byte(id.Node)}, id.Boot)
	return string(binary.BigEndian.AppendUint64(out, id.N))
}

// name: by what a tie is told apart from others of its kind.
func (x row) name() api.Id {
	if x.kind == "link" {
		return x.other
	}
	return x.ref
}

// make: a tie more.
func (r *rows) make(x row) string {
	ids := []api.Id{x.other, x.ref}
	if x.kind == "link" {
		ids = ids[:1]
	}
	for _, id := range ids {
		if !mayBe(id) || x.kind == "link" && id == r.me {
			return "arg"
		}
	}
	for _, y := range r.ties {
		if y.kind == x.kind && y.name() == x.name() {
			return "twice"
		}
	}
	if len(r.ties) == 256 {
		return "full"
	}
	r.ties = append(r.ties, x)
	return "ok"
}

// undo: one tie less, of which a question is answered by yes.
func (r *rows) undo(is func(row) bool) (row, bool) {
	i := slices.IndexFunc(r.ties, is)
	if i < 0 {
		return row{}, false
	}
	x := r.ties[i]
	r.ties = slices.Delete(r.ties, i, i+1)
	return x, true
}

func (r *rows) undone(x row) string {
	if _, ok := r.undo(func(y row) bool { return x == y }); !ok {
		return "none"
	}
	return "ok"
}

func (r *rows) unwatch(ref api.Id) string {
	x, ok := r.undo(func(y row) bool { return y.kind == "mine" && y.ref == ref })
	if !ok {
		return "none"
	}
	return idText(x.other)
}

// of: the ties of one kind, rising.
func (r *rows) of(kind string) []row {
	var out []row
	for _, x := range r.ties {
		if x.kind == kind {
			out = append(out, x)
		}
	}
	slices.SortFunc(out, func(a, b row) int { return strings.Compare(place(a.name()), place(b.name())) })
	return out
}

func (x row) text() string {
	if x.kind == "link" {
		return idText(x.other)
	}
	return idText(x.ref) + " " + idText(x.other)
}

func (r *rows) end(reason api.Term) string {
	if term.Check(reason) != api.OK {
		return ""
	}
	var out []string
	for _, x := range r.of("link") {
		out = append(out, "exit "+idText(r.me)+" "+idText(x.other)+" "+show(reason))
	}
	for _, x := range r.of("theirs") {
		out = append(out, "down "+idText(r.me)+" "+idText(x.other)+" "+idText(x.ref)+" "+show(reason))
	}
	r.ties = nil
	return strings.Join(out, ", ")
}

func (r *rows) lost(node int) string {
	var out []string
	for _, x := range slices.Concat(r.of("link"), r.of("mine")) {
		switch {
		case x.other.Node != node:
		case x.kind == "link":
			out = append(out, "exit "+idText(x.other)+" "+idText(r.me)+" noconnection")
		default:
			out = append(out, "down "+idText(x.other)+" "+idText(r.me)+" "+idText(x.ref)+" noconnection")
		}
	}
	r.ties = slices.DeleteFunc(r.ties, func(x row) bool { return x.other.Node == node })
	return strings.Join(out, ", ")
}

func (r *rows) told(c call) string {
	switch c.name {
	case "link":
		return r.make(row{"link", api.Id{}, c.other})
	case "unlink":
		return r.undone(row{"link", api.Id{}, c.other})
	case "watch":
		return r.make(row{"mine", c.ref, c.other})
	case "unwatch":
		return r.unwatch(c.ref)
	case "watched":
		return r.make(row{"theirs", c.ref, c.other})
	case "unwatched":
		return r.undone(row{"theirs", c.ref, c.other})
	case "links":
		return textOf(r.of("link"), row.text)
	case "mine", "theirs":
		return textOf(r.of(c.name), row.text)
	case "end":
		return r.end(c.reason)
	case "lost":
		return r.lost(c.node)
	}
	panic("what is " + c.name)
}
