package plan_test

import (
	"slices"
	"testing"

	"potbank/api"
	"potbank/plan"
	"potbank/probe"
)

// args are all that the functions of the package take.
type args struct {
	seats   []api.Seat
	orders  []api.Order
	order   api.Order
	seat    api.Seat
	set     []int
	stowage api.Stowage
	plan    api.Plan
	firings int
	sets    [][]int
}

type call = probe.Call[args]

func isNoStowage(s api.Stowage) bool { return len(s.Rows) == 0 }

func isNoPlan(p api.Plan) bool { return len(p.Firings) == 0 }

func setCalls() []call {
	set := []api.Errno{api.ErrSeat, api.ErrOrder, api.ErrSetOf}
	and := func(e api.Errno) []api.Errno { return append(slices.Clone(set), e) }
	return []call{
		probe.Of("Room", set, func(x args) probe.Told { return probe.Value(plan.Room(x.seats, x.orders, x.set)) }),
		probe.Of("Need", set[1:], func(x args) probe.Told { return probe.Value(plan.Need(x.orders, x.set)) }),
		probe.Of("Fits", set, func(x args) probe.Told { return probe.Value(plan.Fits(x.seats, x.orders, x.set)) }),
		probe.Of("Stow", and(api.ErrCrowd), func(x args) probe.Told { return probe.By(isNoStowage)(plan.Stow(x.seats, x.orders, x.set)) }),
		probe.Of("CheckStow", and(api.ErrLoaded), func(x args) probe.Told {
			return probe.Error(plan.CheckStow(x.seats, x.orders, x.set, x.stowage))
		}),
		probe.Of("Crowd", and(api.ErrFitted), func(x args) probe.Told { return probe.List(plan.Crowd(x.seats, x.orders, x.set)) }),
		probe.Of("CheckCrowd", and(api.ErrFitted), func(x args) probe.Told { return probe.Error(plan.CheckCrowd(x.seats, x.orders, x.set)) }),
		probe.Of("Spare", and(api.ErrCrowd), func(x args) probe.Told { return probe.Value(plan.Spare(x.seats, x.orders, x.set, x.order)) }),
	}
}

func otherCalls() []call {
	given := []api.Errno{api.ErrSeat, api.ErrOrder}
	and := func(more ...api.Errno) []api.Errno { return slices.Concat(given, more) }
	return []call{
		probe.Of("CheckOrders", given[1:], func(x args) probe.Told { return probe.Error(plan.CheckOrders(x.orders)) }),
		probe.Of("CheckSeats", given[:1], func(x args) probe.Told { return probe.Error(plan.CheckSeats(x.seats)) }),
		probe.Of("Suits", []api.Errno{api.ErrOrder, api.ErrSeat}, func(x args) probe.Told { return probe.Value(plan.Suits(x.order, x.seat)) }),
		probe.Of("Crowds", given, func(x args) probe.Told { return probe.List(plan.Crowds(x.seats, x.orders)) }),
		probe.Of("Fullest", given, func(x args) probe.Told { return probe.List(plan.Fullest(x.seats, x.orders)) }),
		probe.Of("Fewest", and(api.ErrCrowd), func(x args) probe.Told { return probe.By(isNoPlan)(plan.Fewest(x.seats, x.orders)) }),
		probe.Of("CheckPlan", and(api.ErrPlan, api.ErrCrowd), func(x args) probe.Told {
			return probe.Error(plan.CheckPlan(x.seats, x.orders, x.plan))
		}),
		probe.Of("Reason", and(api.ErrArg, api.ErrFitted), func(x args) probe.Told { return probe.List(plan.Reason(x.seats, x.orders, x.firings)) }),
		probe.Of("CheckReason", and(api.ErrArg, api.ErrLong, api.ErrSetOf, api.ErrReason), func(x args) probe.Told {
			return probe.Error(plan.CheckReason(x.seats, x.orders, x.firings, x.sets))
		}),
		probe.Of("Moves", and(api.ErrCrowd), func(x args) probe.Told { return probe.List(plan.Moves(x.seats, x.orders)) }),
	}
}

func allCalls() []call { return slices.Concat(setCalls(), otherCalls()) }

func right() args {
	stowage, _ := plan.Stow(seats(), orders(), []int{0, 3})
	return args{
		seats: seats(), orders: orders(), order: orders()[0], seat: seats()[0], set: []int{0, 3}, stowage: stowage,
		plan: api.Plan{Firings: [][]int{{0, 3}, {1}, {2}}}, firings: 2, sets: [][]int{{0, 1}, {0, 2}, {1, 2}},
	}
}

// spoilt returns right arguments with those made wrong that have one of the errors.
func spoilt(errors []api.Errno) args {
	x := right()
	for _, e := range errors {
		switch e {
		case api.ErrSeat:
			x.seats[2].Holds, x.seat.Class = -1, 10
		case api.ErrOrder:
			x.orders[3].Many, x.order.Id = 0, 0
		case api.ErrCrowd: // no seat is of this class
			x.orders[0].Class = 9
		case api.ErrSetOf:
			x.set = []int{0, 0}
			x.sets[2] = []int{1, 4}
		case api.ErrLoaded:
			x.stowage.Rows[0] = nil
		case api.ErrPlan:
			x.plan.Firings = x.plan.Firings[:2]
		case api.ErrArg:
			x.firings = 9
		case api.ErrFitted: // of the set this is so already
			x.firings = max(x.firings, 3)
		case api.ErrReason:
			x.sets[0] = []int{0, 3}
		case api.ErrLong:
			for len(x.sets) <= api.MaxSets {
				x.sets = append(x.sets, []int{1, 2})
			}
		}
	}
	return x
}

func TestFirstErrorDecides(t *testing.T) {
	for _, name := range probe.OutOfOrder(allCalls(), spoilt) {
		t.Error(name)
	}
}

// The last argument of Spare is checked behind the set, and ahead of whether this goes into one firing.
func TestSpareChecksItsOrderLast(t *testing.T) {
	for i, o := range wrongOrders() {
		if n, e := plan.Spare(seats(), orders(), []int{0, 0}, o); n != 0 || e != api.ErrSetOf {
			t.Error(i, n, e)
		}
		for _, set := range [][]int{{0, 1}, {0, 3}} {
			if n, e := plan.Spare(seats(), orders(), set, o); n != 0 || e != api.ErrOrder {
				t.Error(i, set, n, e)
			}
		}
	}
}

// checkErrors runs all calls with arguments of which one is wrong.
func checkErrors(t *testing.T, want api.Errno, spoil func(x *args)) {
	t.Helper()
	x := right()
	spoil(&x)
	for _, name := range probe.Missed(allCalls(), want, x) {
		t.Error(name, x)
	}
}

func TestEachWrongArgument(t *testing.T) {
	for i, k := range wrongKilns() {
		wrong := wrongSeats()
		checkErrors(t, api.ErrSeat, func(x *args) { x.seats, x.seat = k, wrong[i%len(wrong)] })
	}
	for i, l := range wrongLists() {
		wrong := wrongOrders()
		checkErrors(t, api.ErrOrder, func(x *args) { x.orders, x.order = l, wrong[i%len(wrong)] })
	}
	for _, n := range wrongNumbers(0, 3) {
		for _, set := range [][]int{{n}, {0, n}, {n, 0}, {0, 1, n, 3}, {1, 0}, {2, 2}, {0, 1, 2, 3, 3}} {
			checkErrors(t, api.ErrSetOf, func(x *args) { x.set, x.sets[1] = set, set })
		}
	}
}

func TestArgumentsAreNotChanged(t *testing.T) {
	x, y := right(), right()
	// Room for what an append to the orders would write into.
	x.orders = append(make([]api.Order, 0, 9), x.orders...)
	for _, call := range allCalls() {
		call.Run(x)
		if !slices.Equal(x.seats, y.seats) || !slices.Equal(x.orders, y.orders) || x.orders[:5][4] != (api.Order{}) || !slices.Equal(x.set, y.set) ||
			!areRows(x.stowage.Rows, y.stowage.Rows) || !areRows(x.plan.Firings, y.plan.Firings) || !areRows(x.sets, y.sets) {
			t.Fatal(call.Name, x)
		}
	}
}
