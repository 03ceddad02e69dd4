package lex

import (
	"strings"

	"rookery/api"
)

func (r *reader) quoted() ([]byte, api.Errno) {
	r.at++
	var b []byte
	for r.peek() != '"' {
		c, ok := r.oneByte()
		if !ok {
			return nil, api.ErrLexText
		}
		b = append(b, c)
	}
	r.at++
	return b, api.OK
}

// oneByte: false, if what stands there may not stand within quotes; so may not
// the end, which peek tells as a byte 0.
func (r *reader) oneByte() (byte, bool) {
	c := r.next()
	if c == '\\' {
		return r.escape()
	}
	return c, shown(c)
}

func (r *reader) escape() (byte, bool) {
	c := r.next()
	if i := strings.IndexByte(escapes, c); i >= 0 {
		return escaped[i], true
	}
	if c != 'x' {
		return 0, false
	}
	high := strings.IndexByte(digits16, r.next())
	low := strings.IndexByte(digits16, r.next())
	return byte(high<<4 | low), high >= 0 && low >= 0
}

// quote: the text of bytes within quotes.
func quote(given []byte) []byte {
	b := []byte{'"'}
	for _, c := range given {
		if i := strings.IndexByte(escaped, c); i >= 0 {
			b = append(b, '\\', escapes[i])
		} else if shown(c) {
			b = append(b, c)
		} else {
			b = append(b, '\\', 'x', digits16[c>>4], digits16[c&15])
		}
	}
	return append(b, '"')
}
