package peer

import (
	"reflect"
	"unsafe"
)

// SkipTo: so many ticks are over, modulo 2^32.
func (p *Peers) SkipTo(now uint32) { p.now = now }

// Wear: the attempt at a peer is the one with that token. (By cuts the way to
// the last token is too long for a test, and layer 11 has no call for it, so
// that its field is reached by its name.)
func (p *Peers) Wear(node int, token uint32) {
	f := reflect.ValueOf(p.others[node].end).Elem().FieldByName("own").FieldByName("token")
	*(*uint32)(unsafe.Pointer(f.UnsafeAddr())) = token
}
