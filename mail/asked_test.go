package mail_test

import (
	"fmt"
	"slices"

	"rookery/api"
	"rookery/mail"
	"rookery/term"
)

// A test tells a call as a text: "put", "peek", "next", "take", "again", "len"
// or "all"; and what is answered as one too.

// told: what a box answers. What stands beside an error, or beside false, is
// told only where it is not zero.
func told(b *mail.Box, call string, x api.Term) string {
	switch call {
	case "put":
		return errorText(b.Put(x))
	case "peek":
		t, ok := b.Peek()
		if ok {
			return show(t)
		}
		return "none" + beside(t)
	case "next":
		return errorText(b.Next())
	case "take":
		t, e := b.Take()
		if e == api.OK {
			return show(t)
		}
		return errorText(e) + beside(t)
	case "again":
		b.Again()
		return "done"
	case "len":
		return fmt.Sprint(b.Len())
	case "all":
		return showAll(b.All())
	}
	panic("what is " + call)
}

func errorText(e api.Errno) string {
	switch e {
	case api.OK:
		return "ok"
	case 1:
		return "nil"
	case 2:
		return "arg"
	case 210:
		return "full"
	case 211:
		return "none"
	}
	return fmt.Sprint("error ", int(e))
}

func beside(t api.Term) string {
	if sameTerm(t, api.Term{}) {
		return ""
	}
	return " beside " + show(t)
}

// entry is a message as the chapter's words have it: each one tells for itself
// whether it is passed over.
type entry struct {
	text   string
	passed bool
}

// row is a plain row of messages.
type row struct{ entries []entry }

// at: the first that is not passed over; -1, if there is none.
func (r *row) at() int {
	return slices.IndexFunc(r.entries, func(x entry) bool { return !x.passed })
}

func (r *row) put(x api.Term) string {
	if term.Check(x) != api.OK {
		return "arg"
	}
	if len(r.entries) == 256 {
		return "full"
	}
	r.entries = append(r.entries, entry{show(x), false})
	return "ok"
}

func (r *row) take() string {
	i := r.at()
	if i < 0 {
		return "none"
	}
	out := r.entries[i].text
	var left []entry
	for j, x := range r.entries {
		if j != i {
			left = append(left, entry{x.text, false})
		}
	}
	r.entries = left
	return out
}

func (r *row) all() string {
	out := ""
	for i, x := range r.entries {
		if i > 0 {
			out += ","
		}
		out += x.text
	}
	return out
}

func (r *row) told(call string, x api.Term) string {
	i := r.at()
	switch call {
	case "put":
		return r.put(x)
	case "peek":
		if i < 0 {
			return "none"
		}
		return r.entries[i].text
	case "next":
		if i < 0 {
			return "none"
		}
		r.entries[i].passed = true
		return "ok"
	case "take":
		return r.take()
	case "again":
		for j := range r.entries {
			r.entries[j].passed = false
		}
		return "done"
	case "len":
		return fmt.Sprint(len(r.entries))
	case "all":
		return r.all()
	}
	panic("what is " + call)
}
