package boot

import (
	"slices"
	"sync"
)

// arbiter stands between the cores and flash: one at a time may pass.
type arbiter struct {
	lock   sync.Mutex
	flash  []byte
	faults []int
}

// read gives the bytes of flash from one address on, if there are so many and
// none of them is faulty. They are a copy: a core measures and starts on the
// same bytes, whatever becomes of flash.
func (a *arbiter) read(from, count int) (string, bool) {
	a.lock.Lock()
	defer a.lock.Unlock()
	if from+count > len(a.flash) || isFaulty(a.faults, from, count) {
		return "", false
	}
	return string(a.flash[from : from+count]), true
}

// isFaulty tells whether one of so many addresses, from one on, is faulty. The
// first core asks here too, who reads flash ahead of the others.
func isFaulty(faults []int, from, count int) bool {
	return slices.ContainsFunc(faults, func(fault int) bool {
		return fault >= from && fault < from+count
	})
}
