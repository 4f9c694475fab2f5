package plan

import "potbank/api"

// crowd returns the first one of the crowded sets of the fewest orders of a set; false if there is none.
func (f firing) crowd(set mask) (mask, bool) {
	first, is := mask(0), false
search:
	for many := range set.size() + 1 {
		for some := range within(set, many) {
			if f.isCrowded(some) {
				first, is = some, true
				break search
			}
		}
	}
	return first, is
}

// Crowd returns the first one (R6) of the crowded sets of the fewest orders of a set; ErrFitted if there is none.
func Crowd(k []api.Seat, l []api.Order, set []int) ([]int, api.Errno) {
	f, some, e := firingOfSet(k, l, set)
	if e != api.OK {
		return nil, e
	}
	crowd, is := f.crowd(some)
	if !is {
		return nil, api.ErrFitted
	}
	return crowd.list(), api.OK
}

// CheckCrowd returns OK if a set is crowded, and otherwise ErrFitted.
func CheckCrowd(k []api.Seat, l []api.Order, crowd []int) api.Errno {
	f, some, e := firingOfSet(k, l, crowd)
	if e != api.OK {
		return e
	}
	if !f.isCrowded(some) {
		return api.ErrFitted
	}
	return api.OK
}

// crowds returns the crowded sets that have no smaller one within them, by how many orders they have, and those of as many by R6.
func (f firing) crowds() [][]int {
	var crowds [][]int
	for many := range len(f.orders) + 1 {
		for set := range within(f.all(), many) {
			if f.isCrowded(set) && f.fitsLess(set) {
				crowds = append(crowds, set.list())
			}
		}
	}
	return crowds
}

// Crowds returns all crowded sets that have no smaller one within them.
func Crowds(k []api.Seat, l []api.Order) ([][]int, api.Errno) {
	f, e := checkedFiring(k, l)
	if e != api.OK {
		return nil, e
	}
	return f.crowds(), api.OK
}
