package lex

import (
	"strconv"
	"strings"

	"rookery/api"
)

// reader goes through s once.
type reader struct {
	s  string
	at int
}

// peek: the end is told as a byte 0, which can stand in no token.
func (r *reader) peek() byte {
	if r.at < len(r.s) {
		return r.s[r.at]
	}
	return 0
}

func (r *reader) next() byte {
	c := r.peek()
	r.at++
	return c
}

// skip passes blanks and notes.
func (r *reader) skip() {
	note := false
	for ; r.at < len(r.s); r.at++ {
		switch c := r.s[r.at]; {
		case c == '\n':
			note = false
		case c == '%':
			note = true
		case !note && !blank(c):
			return
		}
	}
}

// token: its first byte tells its kind. Atoms and words are read as variables
// are, so that they fall through to them.
func (r *reader) token() (t api.Token, e api.Errno) {
	t = api.Token{Kind: api.TkVar, At: r.at}
	switch c := r.peek(); {
	case digit(c):
		t.Kind = api.TkInt
		t.N, e = r.integer()
	case c == '"':
		t.Kind = api.TkBytes
		t.B, e = r.quoted()
	case lower(c):
		t.Kind = api.TkAtom
		fallthrough
	case variable(c):
		t.S, e = r.name()
		if Word(t.S) {
			t.Kind = api.TkWord
		}
	default:
		t.Kind = api.TkSign
		t.S, e = r.sign()
	}
	return t, e
}

// integer: of what 64 bits can't hold the library tells the greatest number
// that they can, which is above MaxInt as well.
func (r *reader) integer() (int64, api.Errno) {
	start := r.at
	for digit(r.peek()) {
		r.at++
	}
	n, _ := strconv.ParseInt(r.s[start:r.at], 10, 64)
	if n > api.MaxInt || inName(r.peek()) {
		return 0, api.ErrLexInt
	}
	return n, api.OK
}

// name: a copy, since the answer must not keep the text that was handed in.
func (r *reader) name() (string, api.Errno) {
	start := r.at
	for inName(r.peek()) {
		r.at++
	}
	if r.at-start > api.MaxAtom {
		return "", api.ErrLexName
	}
	return strings.Clone(r.s[start:r.at]), api.OK
}

// sign: what is no sign here is no token at all, since all other kinds were
// tried ahead of it.
func (r *reader) sign() (string, api.Errno) {
next:
	for _, sign := range signs {
		for i := range len(sign) {
			if r.at+i == len(r.s) || r.s[r.at+i] != sign[i] {
				continue next
			}
		}
		r.at += len(sign)
		return sign, api.OK
	}
	return "", api.ErrLexByte
}
