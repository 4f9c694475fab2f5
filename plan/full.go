package plan

import (
	"slices"

	"potbank/api"
)

// spare returns how many saggars of the order i go into a firing beside a set that does not have it and goes into one.
func (f firing) spare(set mask, i int) int {
	spare := f.room(1 << i)
	for some := range set + 1 {
		if some.isWithin(set) {
			// With more, these orders and the one more would be crowded.
			spare = min(spare, f.room(some|1<<i)-f.need(some))
		}
	}
	return spare
}

// Spare returns how many saggars more, of the heat and the class of o, go into a firing of a set; ErrCrowd if the set does not go into one.
func Spare(k []api.Seat, l []api.Order, set []int, o api.Order) (int, api.Errno) {
	f, some, e := firingOfSet(k, l, set)
	if e != api.OK {
		return 0, e
	}
	if e := checkOrder(o); e != api.OK {
		return 0, e
	}
	if !f.fits(some) {
		return 0, api.ErrCrowd
	}
	return firingOf(k, append(slices.Clone(l), o)).spare(some, len(l)), api.OK
}

// isFuller reports whether a set has a greater need than another one, or as great a one and is ahead of it (R6).
func (f firing) isFuller(set, other mask) bool {
	more := f.need(set) - f.need(other)
	return more > 0 || more == 0 && slices.Compare(set.list(), other.list()) < 0
}

// Fullest returns the first one (R6) of the sets of the greatest need that go into one firing.
func Fullest(k []api.Seat, l []api.Order) ([]int, api.Errno) {
	f, e := checkedFiring(k, l)
	if e != api.OK {
		return nil, e
	}
	var fullest mask
	for set := range f.all() + 1 {
		if f.fits(set) && f.isFuller(set, fullest) {
			fullest = set
		}
	}
	return fullest.list(), api.OK
}
