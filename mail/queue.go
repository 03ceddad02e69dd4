package mail

import "slices"

// queue is items in the order in which they came, of which the first so many
// are passed over.
type queue[T any] struct {
	items  []T
	passed int
}

func (q *queue[T]) put(x T) { q.items = append(q.items, x) }

// first: the first item that is not passed over, if there is one.
func (q *queue[T]) first() (x T, ok bool) {
	if q.passed == len(q.items) {
		return x, false
	}
	return q.items[q.passed], true
}

// pass: that one is passed over too, if there is one.
func (q *queue[T]) pass() bool {
	_, ok := q.first()
	if ok {
		q.passed++
	}
	return ok
}

// take: that one goes out, and none is passed over; nothing, if there is none.
func (q *queue[T]) take() (T, bool) {
	x, ok := q.first()
	if ok {
		q.items = slices.Delete(q.items, q.passed, q.passed+1)
		q.again()
	}
	return x, ok
}

func (q *queue[T]) again() { q.passed = 0 }
