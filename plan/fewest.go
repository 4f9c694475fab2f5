package plan

import (
	"slices"

	"potbank/api"
	"potbank/parts"
)

// fewest returns the fewest firings that keep the orders; false if none do.
func (f firing) fewest() ([][]int, bool) { return parts.Fewest(len(f.orders), f.fitsList) }

// Fewest returns the plan of the fewest firings that keeps the orders; ErrCrowd if none does.
func Fewest(k []api.Seat, l []api.Order) (api.Plan, api.Errno) {
	f, e := checkedFiring(k, l)
	if e != api.OK {
		return api.Plan{}, e
	}
	firings, keep := f.fewest()
	if !keep {
		return api.Plan{}, api.ErrCrowd
	}
	return api.Plan{Firings: firings}, api.OK
}

// CheckPlan returns OK if p is a plan of the orders that keeps them; ErrPlan if it is none, ErrCrowd if it does not keep them.
func CheckPlan(k []api.Seat, l []api.Order, p api.Plan) api.Errno {
	f, e := checkedFiring(k, l)
	if e != api.OK {
		return e
	}
	if !parts.Are(p.Firings, len(l)) {
		return api.ErrPlan
	}
	for _, set := range p.Firings {
		if !f.fitsList(set) {
			return api.ErrCrowd
		}
	}
	return api.OK
}

// Moves returns the indices of the orders without which alone fewer firings do; ErrCrowd if no plan keeps the orders.
func Moves(k []api.Seat, l []api.Order) ([]int, api.Errno) {
	f, e := checkedFiring(k, l)
	if e != api.OK {
		return nil, e
	}
	firings, keep := f.fewest()
	if !keep {
		return nil, api.ErrCrowd
	}
	var moves []int
	for i := range l {
		// Fewer orders are kept where all are.
		fewer, _ := firingOf(k, slices.Concat(l[:i], l[i+1:])).fewest()
		if len(fewer) < len(firings) {
			moves = append(moves, i)
		}
	}
	return moves, api.OK
}
