package plan_test

import (
	"math/rand"
	"slices"
	"testing"

	"potbank/api"
	"potbank/plan"
)

func wrongOrders() []api.Order {
	l := []api.Order{{}}
	number := func(lo, hi int, number func(o *api.Order) *int) {
		for _, n := range wrongNumbers(lo, hi) {
			o := orders()[0]
			*number(&o) = n
			l = append(l, o)
		}
	}
	number(1, 999, func(o *api.Order) *int { return &o.Id })
	number(1, 1000, func(o *api.Order) *int { return &o.Many })
	number(0, 9, func(o *api.Order) *int { return &o.Class })
	for _, heat := range wrongRanges(0, 2000) {
		o := orders()[0]
		o.Heat = heat
		l = append(l, o)
	}
	return l
}

func wrongSeats() []api.Seat {
	var l []api.Seat
	number := func(lo, hi int, number func(s *api.Seat) *int) {
		for _, n := range wrongNumbers(lo, hi) {
			s := seats()[0]
			*number(&s) = n
			l = append(l, s)
		}
	}
	number(0, 9, func(s *api.Seat) *int { return &s.Class })
	number(0, 1000, func(s *api.Seat) *int { return &s.Holds })
	for _, heat := range wrongRanges(0, 2000) {
		s := seats()[0]
		s.Heat = heat
		l = append(l, s)
	}
	return l
}

// wrongLists returns lists of orders that are not valid.
func wrongLists() [][]api.Order {
	same := orders()
	same[3].Id = same[0].Id
	lists := [][]api.Order{like(9, 1), same, slices.Repeat(orders()[:1], 2)}
	for i, o := range wrongOrders() {
		l := orders()
		l[i%4] = o
		lists = append(lists, l)
	}
	return lists
}

// wrongKilns returns seats that are no kiln.
func wrongKilns() [][]api.Seat {
	kilns := [][]api.Seat{slices.Repeat(open(1), 25)}
	for i, s := range wrongSeats() {
		k := seats()
		k[i%3] = s
		kilns = append(kilns, k)
	}
	return kilns
}

func TestCheckOrders(t *testing.T) {
	for _, l := range [][]api.Order{
		nil, {}, orders(), like(8, 1000), {order(1, 1, 0, 0, 0)}, {order(999, 1000, 2000, 2000, 9)}, {order(2, 1, 0, 2000, 0), order(1, 1, 0, 2000, 0)},
	} {
		if e := plan.CheckOrders(l); e != api.OK {
			t.Error(l, e)
		}
	}
	for _, l := range wrongLists() {
		if e := plan.CheckOrders(l); e != api.ErrOrder {
			t.Error(l, e)
		}
	}
}

func TestCheckSeats(t *testing.T) {
	for _, k := range [][]api.Seat{nil, {}, seats(), slices.Repeat(open(1000), 24), {seat(0, 0, 0, 0)}, {seat(2000, 2000, 9, 1000)}, {{}, {}}} {
		if e := plan.CheckSeats(k); e != api.OK {
			t.Error(k, e)
		}
	}
	for _, k := range wrongKilns() {
		if e := plan.CheckSeats(k); e != api.ErrSeat {
			t.Error(k, e)
		}
	}
}

func TestSuitsExamples(t *testing.T) {
	o := orders()[0]
	for i, want := range []bool{true, false, false} {
		if is, e := plan.Suits(o, seats()[i]); is != want || e != api.OK {
			t.Error(i, is, e)
		}
	}
	for _, x := range []struct {
		o    api.Order
		s    api.Seat
		want bool
	}{
		{order(1, 1, 1000, 1050, 5), seat(1000, 1050, 5, 0), true},
		{order(1, 1, 1000, 1050, 5), seat(999, 1050, 5, 9), false},
		{order(1, 1, 1000, 1050, 5), seat(1000, 1051, 5, 9), false},
		{order(1, 1, 1000, 1050, 5), seat(1000, 1050, 4, 9), false},
		{order(1, 1, 1000, 1050, 5), seat(1000, 1050, 9, 9), true},
		{order(1, 1, 1000, 1000, 0), seat(1000, 1000, 0, 1), true},
		{order(1, 9, 1000, 1000, 0), seat(1000, 1000, 0, 1), true}, // how many there are is not asked
		{order(1, 1, 1000, 1050, 0), seat(900, 1100, 0, 1), false},
		{order(1, 1, 1000, 1050, 0), seat(1051, 1060, 0, 1), false},
		{order(1, 1, 1000, 1050, 0), seat(900, 999, 0, 1), false},
	} {
		if is, e := plan.Suits(x.o, x.s); is != x.want || e != api.OK {
			t.Error(x, is, e)
		}
	}
}

func TestSuitsAtEachHeat(t *testing.T) {
	r := rand.New(rand.NewSource(1))
	var seen [2]int
	for range 2000 {
		w := someWorld(r, 1, 1)
		if len(w.k) == 0 || len(w.l) == 0 {
			continue
		}
		want := stands(w.l[0], w.k[0])
		if is, e := plan.Suits(w.l[0], w.k[0]); is != want || e != api.OK {
			t.Fatal(w, is, e)
		}
		if want {
			seen[1]++
		} else {
			seen[0]++
		}
	}
	if slices.Min(seen[:]) < 50 {
		t.Error("the cases are lopsided", seen)
	}
}

func TestRoomAndNeedExamples(t *testing.T) {
	for _, x := range []struct {
		set        []int
		room, need int
	}{
		{[]int{0}, 10, 8},
		{[]int{1}, 16, 12},
		{[]int{0, 1}, 16, 20},
		{nil, 0, 0},
		{[]int{}, 0, 0},
		{[]int{2}, 10, 5},
		{[]int{3}, 36, 20},
		{[]int{0, 2}, 10, 13},
		{[]int{0, 1, 2, 3}, 36, 45},
	} {
		if n, e := plan.Room(seats(), orders(), x.set); n != x.room || e != api.OK {
			t.Error(x, n, e)
		}
		if n, e := plan.Need(orders(), x.set); n != x.need || e != api.OK {
			t.Error(x, n, e)
		}
	}
	all := []int{0, 1, 2, 3, 4, 5, 6, 7}
	if n, e := plan.Room(slices.Repeat(open(1000), 24), like(8, 1000), all); n != 24000 || e != api.OK {
		t.Error(n, e)
	}
	if n, e := plan.Need(like(8, 1000), all); n != 8000 || e != api.OK {
		t.Error(n, e)
	}
	if n, e := plan.Room(nil, orders(), []int{0, 1}); n != 0 || e != api.OK {
		t.Error("no seats", n, e)
	}
}

func TestRoomAndNeedOfAnySet(t *testing.T) {
	r := rand.New(rand.NewSource(2))
	for range 300 {
		w := someWorld(r, 4, 5)
		for _, set := range w.sets() {
			if n, e := plan.Room(w.k, w.l, set); n != w.room(set) || e != api.OK {
				t.Fatal(w, set, n, e)
			}
			if n, e := plan.Need(w.l, set); n != w.need(set) || e != api.OK {
				t.Fatal(w, set, n, e)
			}
		}
	}
}
