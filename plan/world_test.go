package plan_test

import (
	"math/rand"
	"slices"

	"potbank/api"
	"potbank/plan"
	"potbank/probe"
)

var (
	span         = probe.Span
	wrongNumbers = probe.WrongNumbers
	wrongRanges  = probe.WrongRanges
)

func seat(lo, hi, class, holds int) api.Seat {
	return api.Seat{Heat: span(lo, hi), Class: class, Holds: holds}
}

func order(id, many, lo, hi, class int) api.Order {
	return api.Order{Id: id, Many: many, Heat: span(lo, hi), Class: class}
}

// seats and orders are those of the chapter's examples.
func seats() []api.Seat {
	return []api.Seat{seat(1000, 1050, 5, 10), seat(1040, 1100, 5, 6), seat(1000, 1020, 1, 20)}
}

func orders() []api.Order {
	return []api.Order{order(1, 8, 990, 1060, 3), order(2, 12, 1000, 1120, 4), order(3, 5, 1000, 1050, 5), order(4, 20, 900, 1100, 0)}
}

// like returns n orders that any seat suits.
func like(n, many int) []api.Order {
	l := make([]api.Order, n)
	for i := range l {
		l[i] = order(i+1, many, 0, api.MaxHeat, 0)
	}
	return l
}

// open returns a kiln with one seat that suits all orders of like.
func open(holds int) []api.Seat { return []api.Seat{seat(1000, 1000, 5, holds)} }

func areRows(x, y [][]int) bool { return slices.EqualFunc(x, y, slices.Equal[[]int]) }

// world is a kiln with orders, few enough for all that may be to be gone through.
type world struct {
	k []api.Seat
	l []api.Order
}

func someRange(r *rand.Rand, last, width int) api.Range {
	lo := r.Intn(last + 1)
	return span(lo, lo+r.Intn(width+1))
}

func someSeat(r *rand.Rand) api.Seat {
	return api.Seat{Heat: someRange(r, 3, 1), Class: r.Intn(4), Holds: r.Intn(8)}
}

func someOrder(r *rand.Rand, id int) api.Order {
	return api.Order{Id: id, Many: 1 + r.Intn(4), Heat: span(r.Intn(2), 2+r.Intn(4)), Class: r.Intn(3)}
}

// someWorld returns a random kiln with at most so many seats and orders.
func someWorld(r *rand.Rand, seats, orders int) world {
	var w world
	for range r.Intn(seats + 1) {
		w.k = append(w.k, someSeat(r))
	}
	for _, id := range r.Perm(9)[:r.Intn(orders+1)] {
		w.l = append(w.l, someOrder(r, id+1))
	}
	return w
}

// great returns a random kiln of many seats and as many orders as may be.
func great(r *rand.Rand) world {
	var w world
	for range 1 + r.Intn(api.MaxSeats) {
		w.k = append(w.k, api.Seat{Heat: someRange(r, 900, 300), Class: r.Intn(10), Holds: r.Intn(400)})
	}
	for i := range api.MaxOrders {
		w.l = append(w.l, api.Order{Id: i + 1, Many: 1 + r.Intn(500), Heat: someRange(r, 500, 1500), Class: r.Intn(6)})
	}
	return w
}

// stands reports whether a saggar of an order may stand at a seat, whatever heat the seat gets.
func stands(o api.Order, s api.Seat) bool {
	for heat := s.Heat.Lo; heat <= s.Heat.Hi; heat++ {
		if heat < o.Heat.Lo || heat > o.Heat.Hi {
			return false
		}
	}
	return s.Class >= o.Class
}

func (w world) need(set []int) int {
	sum := 0
	for _, i := range set {
		sum += w.l[i].Many
	}
	return sum
}

func (w world) room(set []int) int {
	sum := 0
	for _, s := range w.k {
		if slices.ContainsFunc(set, func(i int) bool { return stands(w.l[i], s) }) {
			sum += s.Holds
		}
	}
	return sum
}

func (w world) isCrowded(set []int) bool { return w.need(set) > w.room(set) }

// standsAll reports whether saggars, one by one, find places in some way.
func (w world) standsAll(set []int) bool {
	var saggars []int
	for _, i := range set {
		saggars = append(saggars, slices.Repeat([]int{i}, w.l[i].Many)...)
	}
	left := make([]int, len(w.k))
	for at, s := range w.k {
		left[at] = s.Holds
	}
	// Saggars of one order are alike: each is put no further ahead than the one before it.
	var put func(n, from int) bool
	put = func(n, from int) bool {
		if n == len(saggars) {
			return true
		}
		if n > 0 && saggars[n] != saggars[n-1] {
			from = 0
		}
		for at := from; at < len(w.k); at++ {
			if left[at] > 0 && stands(w.l[saggars[n]], w.k[at]) {
				left[at]--
				does := put(n+1, at)
				left[at]++
				if does {
					return true
				}
			}
		}
		return false
	}
	return put(0, 0)
}

// isStowed reports whether rows are those of a stowage of a set, as the chapter defines it.
func (w world) isStowed(set []int, rows [][]int) bool {
	if len(rows) != len(w.l) {
		return false
	}
	used := make([]int, len(w.k))
	for i, row := range rows {
		if len(row) != len(w.k) {
			return false
		}
		sum := 0
		for at, n := range row {
			if n < 0 || n > 0 && (!stands(w.l[i], w.k[at]) || !slices.Contains(set, i)) {
				return false
			}
			sum += n
			used[at] += n
		}
		if slices.Contains(set, i) && sum != w.l[i].Many {
			return false
		}
	}
	for at, n := range used {
		if n > w.k[at].Holds {
			return false
		}
	}
	return true
}

// subsets returns all sets within a set, in the order of R6.
func subsets(set []int) [][]int {
	all := [][]int{nil}
	for i, first := range set {
		for _, rest := range subsets(set[i+1:]) {
			all = append(all, append([]int{first}, rest...))
		}
	}
	return all
}

func (w world) all() []int {
	var set []int
	for i := range w.l {
		set = append(set, i)
	}
	return set
}

func (w world) sets() [][]int { return subsets(w.all()) }

// isIn reports whether all numbers of a list are in another one.
func isIn(list, other []int) bool {
	return !slices.ContainsFunc(list, func(i int) bool { return !slices.Contains(other, i) })
}

// ways returns all lists that give each of the orders the number of one of n firings, in the order of R6.
func (w world) ways(n int) [][]int {
	all := [][]int{nil}
	for range w.l {
		var longer [][]int
		for _, way := range all {
			for firing := range n {
				longer = append(longer, append(slices.Clone(way), firing))
			}
		}
		all = longer
	}
	return all
}

// firingsOf returns what goes into each of n firings.
func firingsOf(way []int, n int) [][]int {
	firings := make([][]int, n)
	for i, firing := range way {
		firings[firing] = append(firings[firing], i)
	}
	return firings
}

// fits asks the package whether a set goes into one firing.
func (w world) fits(set []int) bool {
	is, _ := plan.Fits(w.k, w.l, set)
	return is
}
