package plan

import (
	"slices"

	"potbank/api"
	"potbank/limits"
	"potbank/parts"
)

// checkFirings returns the firing of seats and orders; ErrArg if so many firings may not be asked about.
func checkFirings(k []api.Seat, l []api.Order, firings int) (firing, api.Errno) {
	f, e := checkedFiring(k, l)
	if e != api.OK {
		return firing{}, e
	}
	if !limits.IsBetween(firings, 0, api.MaxOrders) {
		return firing{}, api.ErrArg
	}
	return f, api.OK
}

// Reason returns Crowds as the reason that so many firings do not do; ErrFitted if they do.
func Reason(k []api.Seat, l []api.Order, firings int) ([][]int, api.Errno) {
	f, e := checkFirings(k, l, firings)
	if e != api.OK {
		return nil, e
	}
	if _, do := parts.First(len(l), firings, f.fitsList); do {
		return nil, api.ErrFitted
	}
	return f.crowds(), api.OK
}

// masksOf returns lists as sets of n orders; false if one is none.
func masksOf(sets [][]int, n int) ([]mask, bool) {
	masks := make([]mask, 0, len(sets))
	for _, set := range sets {
		if !parts.IsSet(set, n) {
			return nil, false
		}
		masks = append(masks, maskOf(set))
	}
	return masks, true
}

// isReason reports whether sets are a reason that so many firings do not do.
func (f firing) isReason(sets []mask, firings int) bool {
	for _, set := range sets {
		if !f.isCrowded(set) {
			return false
		}
	}
	avoids := func(list []int) bool {
		orders := maskOf(list)
		return !slices.ContainsFunc(sets, func(set mask) bool { return set.isWithin(orders) })
	}
	_, avoid := parts.First(len(f.orders), firings, avoids)
	return !avoid
}

// CheckReason returns OK if sets are a reason that so many firings do not do; ErrLong if they are too many, ErrSetOf if one is no set of the orders, and otherwise ErrReason.
func CheckReason(k []api.Seat, l []api.Order, firings int, sets [][]int) api.Errno {
	f, e := checkFirings(k, l, firings)
	if e != api.OK {
		return e
	}
	if len(sets) > api.MaxSets {
		return api.ErrLong
	}
	masks, are := masksOf(sets, len(l))
	if !are {
		return api.ErrSetOf
	}
	if !f.isReason(masks, firings) {
		return api.ErrReason
	}
	return api.OK
}
