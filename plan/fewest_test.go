package plan_test

import (
	"math"
	"math/rand"
	"slices"
	"testing"

	"potbank/api"
	"potbank/plan"
)

func TestFewestExamples(t *testing.T) {
	for _, x := range []struct {
		k    []api.Seat
		l    []api.Order
		want [][]int
	}{
		{seats(), orders(), [][]int{{0, 3}, {1}, {2}}},
		{seats(), nil, nil},
		{nil, nil, nil},
		{seats(), orders()[:1], [][]int{{0}}},
		{seats(), orders()[2:], [][]int{{0, 1}}},
		{open(10), like(8, 10), [][]int{{0}, {1}, {2}, {3}, {4}, {5}, {6}, {7}}},
		{open(10), like(8, 5), [][]int{{0, 1}, {2, 3}, {4, 5}, {6, 7}}},
		{open(8), like(8, 1), [][]int{{0, 1, 2, 3, 4, 5, 6, 7}}},
		{open(1000), like(8, 1000), [][]int{{0}, {1}, {2}, {3}, {4}, {5}, {6}, {7}}},
	} {
		if p, e := plan.Fewest(x.k, x.l); !areRows(p.Firings, x.want) || e != api.OK {
			t.Error(x, p, e)
		}
	}
	for _, x := range []world{{nil, orders()}, {seats()[1:], orders()}, {open(9), like(3, 10)}, {open(9), append(like(7, 2), order(9, 10, 0, 2000, 0))}} {
		if p, e := plan.Fewest(x.k, x.l); len(p.Firings) != 0 || e != api.ErrCrowd {
			t.Error(x, p, e)
		}
	}
}

// The first two would go together, but then three firings are needed.
func TestFewestIsNotTheFirstThatGoes(t *testing.T) {
	l := like(4, 1)
	for i, many := range []int{4, 3, 6, 7} {
		l[i].Many = many
	}
	if p, e := plan.Fewest(open(10), l); !areRows(p.Firings, [][]int{{0, 2}, {1, 3}}) || e != api.OK {
		t.Error(p, e)
	}
}

func TestCheckPlanExamples(t *testing.T) {
	for _, x := range []struct {
		firings [][]int
		want    api.Errno
	}{
		{[][]int{{0, 3}, {1}, {2}}, api.OK},
		{[][]int{{0}, {1, 3}, {2}}, api.OK},
		{[][]int{{0}, {1}, {2}, {3}}, api.OK},
		{[][]int{{0, 1}, {2}, {3}}, api.ErrCrowd},
		{[][]int{{0, 3}, {1, 2}}, api.ErrCrowd},
		{[][]int{{0, 1, 2, 3}}, api.ErrCrowd},
		{nil, api.ErrPlan},
		{[][]int{{}}, api.ErrPlan},
		{[][]int{{0, 3}, {1}}, api.ErrPlan},
		{[][]int{{0, 3}, {1}, {2}, {}}, api.ErrPlan},
		{[][]int{{}, {0, 3}, {1}, {2}}, api.ErrPlan},
		{[][]int{{0, 3}, {2}, {1}}, api.ErrPlan},
		{[][]int{{3, 0}, {1}, {2}}, api.ErrPlan},
		{[][]int{{0, 3}, {1}, {2}, {3}}, api.ErrPlan},
		{[][]int{{0, 3}, {1, 3}, {2}}, api.ErrPlan},
		{[][]int{{0, 0, 3}, {1}, {2}}, api.ErrPlan},
		{[][]int{{0, 3}, {1}, {1}, {2}}, api.ErrPlan},
		{[][]int{{0, 3}, {1}, {2}, {4}}, api.ErrPlan},
		{[][]int{{0, 3, 4}, {1}, {2}}, api.ErrPlan},
		{[][]int{{-1, 0, 3}, {1}, {2}}, api.ErrPlan},
		{[][]int{{-1}, {0, 3}, {1}, {2}}, api.ErrPlan},
		{[][]int{{0, 3}, {1}, {4}}, api.ErrPlan},
		{[][]int{{0, 1}, {0, 1, 2, 3}}, api.ErrPlan}, // crowded too
		{[][]int{{math.MinInt, 3}, {1}, {2, math.MaxInt}}, api.ErrPlan},
	} {
		if e := plan.CheckPlan(seats(), orders(), api.Plan{Firings: x.firings}); e != x.want {
			t.Error(x, e)
		}
	}
	for _, x := range []struct {
		firings [][]int
		want    api.Errno
	}{{nil, api.OK}, {[][]int{}, api.OK}, {[][]int{{}}, api.ErrPlan}, {[][]int{{0}}, api.ErrPlan}} {
		if e := plan.CheckPlan(seats(), nil, api.Plan{Firings: x.firings}); e != x.want {
			t.Error("no orders", x, e)
		}
	}
}

// keeps reports whether of a way to give the orders firings each firing does.
func (w world) keeps(way []int, n int) bool {
	return !slices.ContainsFunc(firingsOf(way, n), func(set []int) bool { return !w.fits(set) })
}

// fewest returns the firings of the first way of as few as keep the orders, in the order of R6; false if none do.
func (w world) fewest() ([][]int, bool) {
	for n := range len(w.l) + 1 {
		for _, way := range w.ways(n) {
			if w.keeps(way, n) {
				return firingsOf(way, n), true
			}
		}
	}
	return nil, false
}

func TestFewestOfAnyOrders(t *testing.T) {
	r := rand.New(rand.NewSource(13))
	var seen [5]int
	none := 0
	for range 1500 {
		w := someWorld(r, 6, 5)
		want, keep := w.fewest()
		p, e := plan.Fewest(w.k, w.l)
		if !areRows(p.Firings, want) || keep != (e == api.OK) || !keep && e != api.ErrCrowd {
			t.Fatal(w, p, want, e)
		}
		if !keep {
			none++
			continue
		}
		if e := plan.CheckPlan(w.k, w.l, p); e != api.OK {
			t.Fatal(w, p, e)
		}
		if len(p.Firings) < len(seen) {
			seen[len(p.Firings)]++
		}
	}
	if none < 50 || slices.Min(seen[:4]) < 10 {
		t.Error("the cases are lopsided", none, seen)
	}
}

// isRisingWay reports whether firings are numbered as they begin, so that they are a plan.
func isRisingWay(way []int) bool {
	next := 0
	for _, firing := range way {
		if firing > next {
			return false
		}
		next = max(next, firing+1)
	}
	return true
}

func TestCheckPlanOfAllWays(t *testing.T) {
	r := rand.New(rand.NewSource(14))
	var seen [3]int
	for range 100 {
		w := someWorld(r, 6, 4)
		for n := range len(w.l) + 1 {
			for _, way := range w.ways(n) {
				firings := firingsOf(way, n)
				isPlan := isRisingWay(way) && !slices.ContainsFunc(firings, func(set []int) bool { return len(set) == 0 })
				want, at := api.OK, 0
				if !isPlan {
					want, at = api.ErrPlan, 1
				} else if !w.keeps(way, n) {
					want, at = api.ErrCrowd, 2
				}
				if e := plan.CheckPlan(w.k, w.l, api.Plan{Firings: firings}); e != want {
					t.Fatal(w, firings, e)
				}
				seen[at]++
			}
		}
	}
	if slices.Min(seen[:]) < 50 {
		t.Error("the cases are lopsided", seen)
	}
}

func TestPlansShareNoMemory(t *testing.T) {
	p, _ := plan.Fewest(seats(), orders())
	for i := range p.Firings {
		p.Firings[i] = append(p.Firings[i], 9)
	}
	if !areRows(p.Firings, [][]int{{0, 3, 9}, {1, 9}, {2, 9}}) {
		t.Error(p)
	}
}

// P6.4: some of the orders need no more firings.
func TestFewestOfSomeOrders(t *testing.T) {
	r := rand.New(rand.NewSource(15))
	many := 0
	for range 300 {
		w := someWorld(r, 6, 5)
		p, e := plan.Fewest(w.k, w.l)
		if e != api.OK {
			continue
		}
		for _, set := range w.sets() {
			some := world{k: w.k}
			for _, i := range set {
				some.l = append(some.l, w.l[i])
			}
			q, e := plan.Fewest(some.k, some.l)
			if len(q.Firings) > len(p.Firings) || e != api.OK {
				t.Fatal(w, set, p, q, e)
			}
			many++
		}
	}
	if many < 500 {
		t.Error("the cases are lopsided", many)
	}
}

func TestMovesExamples(t *testing.T) {
	for _, x := range []struct {
		k    []api.Seat
		l    []api.Order
		want []int
	}{
		{seats(), orders(), []int{0, 1, 2}},
		{seats(), nil, nil},
		{nil, nil, nil},
		{seats(), orders()[3:], []int{0}},
		{seats(), orders()[2:], nil},
		{open(10), like(8, 10), []int{0, 1, 2, 3, 4, 5, 6, 7}},
		{open(10), like(8, 5), nil},
		{open(10), like(7, 5), []int{0, 1, 2, 3, 4, 5, 6}},
		{open(10), append(like(2, 5), order(3, 6, 0, 2000, 0)), []int{2}},
	} {
		if l, e := plan.Moves(x.k, x.l); !slices.Equal(l, x.want) || e != api.OK {
			t.Error(x, l, e)
		}
	}
	for _, x := range []world{{nil, orders()}, {open(9), like(1, 10)}, {open(9), append(like(7, 2), order(9, 10, 0, 2000, 0))}} {
		if l, e := plan.Moves(x.k, x.l); len(l) != 0 || e != api.ErrCrowd {
			t.Error(x, l, e)
		}
	}
}

func TestMovesOfAnyOrders(t *testing.T) {
	r := rand.New(rand.NewSource(16))
	var seen [5]int
	for range 1000 {
		w := someWorld(r, 6, 5)
		firings, keep := w.fewest()
		l, e := plan.Moves(w.k, w.l)
		if !keep {
			if len(l) != 0 || e != api.ErrCrowd {
				t.Fatal(w, l, e)
			}
			continue
		}
		var want []int
		for i := range w.l {
			less, _ := world{w.k, slices.Delete(slices.Clone(w.l), i, i+1)}.fewest()
			if len(less) < len(firings) {
				want = append(want, i)
			}
		}
		if !slices.Equal(l, want) || e != api.OK {
			t.Fatal(w, l, want, e)
		}
		seen[min(len(l), 4)]++
	}
	if slices.Min(seen[:4]) < 10 {
		t.Error("the cases are lopsided", seen)
	}
}
