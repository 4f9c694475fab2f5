package plan

import (
	"potbank/api"
	"potbank/limits"
)

// holds returns how many saggars each seat holds.
func (f firing) holds() []int {
	holds := make([]int, len(f.seats))
	for seat, s := range f.seats {
		holds[seat] = s.Holds
	}
	return holds
}

// stow returns the rows of a stowage of a set; false if there is none.
func (f firing) stow(set mask) ([][]int, bool) {
	rows := make([][]int, len(f.orders))
	for i := range rows {
		rows[i] = make([]int, len(f.seats))
	}
	left, seen := f.holds(), make([]bool, len(f.seats))
	move := func(order, seat, many int) {
		rows[order][seat] += many
		left[seat] -= many
	}
	// put lets up to so many saggars of an order stand at a seat that was not seen yet; where no room is left, it first moves others from there. It returns how many.
	var put func(order, many int) int
	put = func(order, many int) int {
		for seat := range f.seats {
			if seen[seat] || !f.takes[seat].has(order) {
				continue
			}
			seen[seat] = true
			for other := range set.indices() {
				if left[seat] == 0 && rows[other][seat] > 0 {
					moved := put(other, min(many, rows[other][seat]))
					move(other, seat, -moved)
				}
			}
			if n := min(many, left[seat]); n > 0 {
				move(order, seat, n)
				return n
			}
		}
		return 0
	}
	for i := range set.indices() {
		for many := f.orders[i].Many; many > 0; {
			clear(seen)
			n := put(i, many)
			if n == 0 {
				return nil, false
			}
			many -= n
		}
	}
	return rows, true
}

// Stow returns a stowage of a set; ErrCrowd if there is none.
func Stow(k []api.Seat, l []api.Order, set []int) (api.Stowage, api.Errno) {
	f, some, e := firingOfSet(k, l, set)
	if e != api.OK {
		return api.Stowage{}, e
	}
	rows, are := f.stow(some)
	if !are {
		return api.Stowage{}, api.ErrCrowd
	}
	return api.Stowage{Rows: rows}, api.OK
}

// isStowage reports whether rows are those of a stowage of a set.
func (f firing) isStowage(set mask, rows [][]int) bool {
	if len(rows) != len(f.orders) {
		return false
	}
	left := f.holds()
	for i, row := range rows {
		if len(row) != len(f.seats) {
			return false
		}
		placed, many := 0, 0
		if set.has(i) {
			many = f.orders[i].Many
		}
		for seat, n := range row {
			if !limits.IsBetween(n, 0, left[seat]) || n > 0 && !f.takes[seat].has(i) {
				return false
			}
			left[seat] -= n
			placed += n
		}
		if placed != many {
			return false
		}
	}
	return true
}

// CheckStow returns OK if s is a stowage of a set, and otherwise ErrLoaded.
func CheckStow(k []api.Seat, l []api.Order, set []int, s api.Stowage) api.Errno {
	f, some, e := firingOfSet(k, l, set)
	if e != api.OK {
		return e
	}
	if !f.isStowage(some, s.Rows) {
		return api.ErrLoaded
	}
	return api.OK
}
