package plan

import (
	"potbank/api"
	"potbank/parts"
)

// firing has the seats of a kiln, and the orders of which sets are to go into it.
type firing struct {
	seats  []api.Seat
	orders []api.Order
	// takes has for each seat the orders that it suits.
	takes []mask
	// tried tells of sets whether they go into one firing.
	tried map[mask]bool
}

// firingOf returns the firing of valid seats and orders.
func firingOf(k []api.Seat, l []api.Order) firing {
	takes := make([]mask, len(k))
	for seat, s := range k {
		for i, o := range l {
			if suits(o, s) {
				takes[seat] |= 1 << i
			}
		}
	}
	return firing{seats: k, orders: l, takes: takes, tried: map[mask]bool{}}
}

// checkedFiring returns the firing of seats and orders; ErrSeat or ErrOrder if they are not valid.
func checkedFiring(k []api.Seat, l []api.Order) (firing, api.Errno) {
	if e := CheckSeats(k); e != api.OK {
		return firing{}, e
	}
	if e := CheckOrders(l); e != api.OK {
		return firing{}, e
	}
	return firingOf(k, l), api.OK
}

// firingOfSet returns, beside the firing, a set of its orders; ErrSetOf if it is none.
func firingOfSet(k []api.Seat, l []api.Order, set []int) (firing, mask, api.Errno) {
	f, e := checkedFiring(k, l)
	if e != api.OK {
		return firing{}, 0, e
	}
	if !parts.IsSet(set, len(l)) {
		return firing{}, 0, api.ErrSetOf
	}
	return f, maskOf(set), api.OK
}

// all returns the set of all orders.
func (f firing) all() mask { return 1<<len(f.orders) - 1 }

func (f firing) need(set mask) int {
	need := 0
	for i := range set.indices() {
		need += f.orders[i].Many
	}
	return need
}

func (f firing) room(set mask) int {
	room := 0
	for seat, s := range f.seats {
		if f.takes[seat]&set != 0 {
			room += s.Holds
		}
	}
	return room
}

func (f firing) isCrowded(set mask) bool { return f.need(set) > f.room(set) }

// fits reports whether a set goes into one firing: it does if no set within it is crowded.
func (f firing) fits(set mask) bool {
	does, known := f.tried[set]
	if !known {
		does = !f.isCrowded(set) && f.fitsLess(set)
		f.tried[set] = does
	}
	return does
}

// fitsLess reports whether a set goes into one firing without any one of its orders.
func (f firing) fitsLess(set mask) bool {
	for i := range set.indices() {
		if !f.fits(set.without(i)) {
			return false
		}
	}
	return true
}

// fitsList reports whether the set with some indices goes into one firing.
func (f firing) fitsList(set []int) bool { return f.fits(maskOf(set)) }

// Fits reports whether a set goes into one firing.
func Fits(k []api.Seat, l []api.Order, set []int) (bool, api.Errno) {
	f, some, e := firingOfSet(k, l, set)
	if e != api.OK {
		return false, e
	}
	return f.fits(some), api.OK
}
