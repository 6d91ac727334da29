// Package box: a box of things of any one type, guarded by its own lock.
package box

import (
	"slices"
	"sync"
)

// Box holds what was put into it, in the order in which it came. One that
// nothing was put into yet needs no making.
type Box[T any] struct {
	lock   sync.Mutex
	things []T
}

// Put lays a thing behind those that the box holds.
func (b *Box[T]) Put(thing T) {
	b.lock.Lock()
	defer b.lock.Unlock()
	b.things = append(b.things, thing)
}

// All is what the box holds, in a list of its own: whoever asks may sort it or
// write into it while others go on putting things in.
func (b *Box[T]) All() []T {
	b.lock.Lock()
	defer b.lock.Unlock()
	return slices.Clone(b.things)
}
