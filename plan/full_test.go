package plan_test

import (
	"math/rand"
	"slices"
	"testing"

	"potbank/api"
	"potbank/plan"
)

func TestSpareExamples(t *testing.T) {
	like := func(i int) api.Order { return orders()[i] }
	for _, x := range []struct {
		set  []int
		o    api.Order
		want int
	}{
		{[]int{0}, like(2), 2},
		{nil, like(2), 10},
		{nil, like(0), 10},
		{nil, like(3), 36},
		{[]int{3}, like(3), 16},
		{[]int{3}, like(2), 10},
		{[]int{1, 3}, like(3), 4},
		{[]int{1}, like(0), 4}, // S0 and S1 hold 4 more
		{[]int{0}, order(1, 1, 0, 999, 0), 0},
		{nil, order(1, 1000, 1040, 1100, 5), 6},
		{[]int{0, 3}, order(999, 1, 1040, 1100, 5), 6},
		{[]int{1, 3}, order(999, 1, 1040, 1100, 5), 4}, // the last 2 are taken by O1
	} {
		if n, e := plan.Spare(seats(), orders(), x.set, x.o); n != x.want || e != api.OK {
			t.Error(x, n, e)
		}
	}
	for _, set := range [][]int{{0, 1}, {0, 2}, {0, 1, 2, 3}} {
		if n, e := plan.Spare(seats(), orders(), set, like(3)); n != 0 || e != api.ErrCrowd {
			t.Error(set, n, e)
		}
	}
}

// No order may be so great as what there is room for.
func TestSpareIsMoreThanAnOrder(t *testing.T) {
	k, l := slices.Repeat(open(1000), 24), like(8, 1000)
	if n, e := plan.Spare(k, nil, nil, l[0]); n != 24000 || e != api.OK {
		t.Error(n, e)
	}
	if n, e := plan.Spare(k, l, []int{0, 1, 2, 3, 4, 5, 6, 7}, l[0]); n != 16000 || e != api.OK {
		t.Error(n, e)
	}
	if n, e := plan.Spare(nil, l, nil, l[0]); n != 0 || e != api.OK {
		t.Error(n, e)
	}
}

// P6.5: so many go in, one more does not.
func TestSpareOfAnySet(t *testing.T) {
	r := rand.New(rand.NewSource(10))
	var seen [4]int
	for range 500 {
		w := someWorld(r, 4, 4)
		o := someOrder(r, 1+r.Intn(9))
		for _, set := range w.sets() {
			n, e := plan.Spare(w.k, w.l, set, o)
			if !w.standsAll(set) {
				if n != 0 || e != api.ErrCrowd {
					t.Fatal(w, set, o, n, e)
				}
				continue
			}
			more := func(many int) bool {
				o.Many = many
				with := world{w.k, append(slices.Clone(w.l), o)}
				return with.standsAll(append(slices.Clone(set), len(w.l)))
			}
			if e != api.OK || n < 0 || n > 0 && !more(n) || more(n+1) {
				t.Fatal(w, set, o, n, e)
			}
			seen[min(n, 3)]++
		}
	}
	if slices.Min(seen[:]) < 50 {
		t.Error("the cases are lopsided", seen)
	}
}

// The one more order may be the ninth, and have the Id of another one.
func TestSpareOfGreatKilns(t *testing.T) {
	r := rand.New(rand.NewSource(11))
	many := 0
	for range 40 {
		w := great(r)
		for _, set := range w.sets() {
			o := w.l[r.Intn(8)]
			n, e := plan.Spare(w.k, w.l, set, o)
			if e != api.OK || n == 0 || n >= api.MaxHolds || len(set) == 8 {
				continue
			}
			with := world{k: w.k}
			for _, i := range set {
				with.l = append(with.l, w.l[i])
			}
			o.Id = 9
			o.Many = n
			with.l = append(with.l, o)
			fits := with.fits(with.all())
			with.l[len(set)].Many++
			if !fits || with.fits(with.all()) {
				t.Fatal(w, set, o, n)
			}
			many++
		}
	}
	if many < 200 {
		t.Error("the cases are lopsided", many)
	}
}

func TestFullestExamples(t *testing.T) {
	for _, x := range []struct {
		k    []api.Seat
		l    []api.Order
		want []int
	}{
		{seats(), orders(), []int{1, 3}},
		{seats(), nil, nil},
		{nil, orders(), nil},
		{nil, nil, nil},
		{seats(), orders()[:1], []int{0}},
		{open(10), like(3, 5), []int{0, 1}},
		{open(4), []api.Order{order(1, 1, 0, 2000, 0), order(2, 3, 0, 2000, 0), order(3, 4, 0, 2000, 0)}, []int{0, 1}},
		{open(4), []api.Order{order(1, 4, 0, 2000, 0), order(2, 3, 0, 2000, 0), order(3, 1, 0, 2000, 0)}, []int{0}},
		{open(4), []api.Order{order(1, 2, 0, 2000, 0), order(2, 1, 0, 2000, 0), order(3, 1, 0, 2000, 0), order(4, 2, 0, 2000, 0)}, []int{0, 1, 2}},
		{open(4), []api.Order{order(1, 5, 0, 2000, 0), order(2, 3, 0, 2000, 0), order(3, 3, 0, 2000, 0)}, []int{1}},
		{open(8), like(8, 1), []int{0, 1, 2, 3, 4, 5, 6, 7}},
	} {
		if s, e := plan.Fullest(x.k, x.l); !slices.Equal(s, x.want) || e != api.OK {
			t.Error(x, s, e)
		}
	}
}

// P6.6: what goes into one firing has no greater need.
func TestFullestOfAnyOrders(t *testing.T) {
	r := rand.New(rand.NewSource(12))
	var seen [6]int
	for range 1000 {
		w := someWorld(r, 4, 5)
		var want []int
		for _, set := range w.sets() {
			if w.standsAll(set) && w.need(set) > w.need(want) {
				want = set
			}
		}
		s, e := plan.Fullest(w.k, w.l)
		if !slices.Equal(s, want) || e != api.OK {
			t.Fatal(w, s, want, e)
		}
		seen[len(s)]++
	}
	if slices.Min(seen[:4]) < 50 {
		t.Error("the cases are lopsided", seen)
	}
}
