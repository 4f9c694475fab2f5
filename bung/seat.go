package bung

import "potbank/api"

// seating gives bungs spots, one after the other.
type seating struct {
	bungs []api.Bung
	spots []api.Spot
	seats []int
	tried map[[api.MaxSpots]bool]bool
}

// seat gives the bungs that have no spot yet the first ones (R6) of those that are not taken; false, and seats as they were, if there are none.
func (t *seating) seat(taken [api.MaxSpots]bool) bool {
	if len(t.seats) == len(t.bungs) {
		return true
	}
	// As many spots are taken as bungs have one, so that the same spots leave the same bungs: who comes back has failed.
	if t.tried[taken] {
		return false
	}
	t.tried[taken] = true
	next := t.bungs[len(t.seats)]
	for i, s := range t.spots {
		if taken[i] || fits(next, s) != api.Yes {
			continue
		}
		with := taken
		with[i] = true
		t.seats = append(t.seats, i)
		if t.seat(with) {
			return true
		}
		t.seats = t.seats[:len(t.seats)-1]
	}
	return false
}

// Seat returns for each bung the index of a spot where it may stand, all different; ErrNone if they cannot.
func Seat(l []api.Bung, s []api.Spot) ([]int, api.Errno) {
	for _, b := range l {
		if e := Check(b); e != api.OK {
			return nil, e
		}
	}
	for _, spot := range s {
		if e := CheckSpot(spot); e != api.OK {
			return nil, e
		}
	}
	if len(l) > api.MaxSpots || len(s) > api.MaxSpots {
		return nil, api.ErrMany
	}
	t := seating{bungs: l, spots: s, tried: map[[api.MaxSpots]bool]bool{}}
	if !t.seat([api.MaxSpots]bool{}) {
		return nil, api.ErrNone
	}
	return t.seats, api.OK
}
