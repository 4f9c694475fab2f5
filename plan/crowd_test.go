package plan_test

import (
	"cmp"
	"math/rand"
	"slices"
	"testing"

	"potbank/api"
	"potbank/plan"
)

func TestCrowdExamples(t *testing.T) {
	for _, x := range []struct {
		set, want []int
	}{
		{[]int{0, 1, 2}, []int{0, 1}},
		{[]int{0, 1}, []int{0, 1}},
		{[]int{0, 2}, []int{0, 2}},
		{[]int{1, 2}, []int{1, 2}},
		{[]int{0, 2, 3}, []int{0, 2}},
		{[]int{0, 1, 2, 3}, []int{0, 1}},
	} {
		if s, e := plan.Crowd(seats(), orders(), x.set); !slices.Equal(s, x.want) || e != api.OK {
			t.Error(x, s, e)
		}
	}
	for _, set := range [][]int{nil, {0}, {3}, {0, 3}, {1, 3}} {
		if s, e := plan.Crowd(seats(), orders(), set); len(s) != 0 || e != api.ErrFitted {
			t.Error(set, s, e)
		}
	}
	// One that is crowded alone is ahead of two with lesser indices.
	l := append(like(2, 6), order(9, 1, 5, 5, 0))
	if s, e := plan.Crowd(open(10), l, []int{0, 1, 2}); !slices.Equal(s, []int{2}) || e != api.OK {
		t.Error(s, e)
	}
	if s, e := plan.Crowd(open(10), like(8, 2), []int{0, 1, 3, 4, 5, 6, 7}); !slices.Equal(s, []int{0, 1, 3, 4, 5, 6}) || e != api.OK {
		t.Error(s, e)
	}
	if s, e := plan.Crowd(nil, orders(), []int{1, 3}); !slices.Equal(s, []int{1}) || e != api.OK {
		t.Error(s, e)
	}
}

func TestCheckCrowdExamples(t *testing.T) {
	for _, set := range [][]int{{0, 1}, {0, 2}, {1, 2}, {0, 1, 2}, {0, 1, 2, 3}} {
		if e := plan.CheckCrowd(seats(), orders(), set); e != api.OK {
			t.Error(set, e)
		}
	}
	// The last one is not crowded, though its orders do not go into one firing.
	for _, set := range [][]int{nil, {}, {0}, {1}, {2}, {3}, {0, 3}, {1, 3}, {0, 2, 3}} {
		if e := plan.CheckCrowd(seats(), orders(), set); e != api.ErrFitted {
			t.Error(set, e)
		}
	}
	// As great a need as the room is not crowded.
	if e := plan.CheckCrowd(open(10), like(2, 5), []int{0, 1}); e != api.ErrFitted {
		t.Error(e)
	}
	if e := plan.CheckCrowd(open(9), like(2, 5), []int{0, 1}); e != api.OK {
		t.Error(e)
	}
}

func TestCrowdsExamples(t *testing.T) {
	for _, x := range []struct {
		k    []api.Seat
		l    []api.Order
		want [][]int
	}{
		{seats(), orders(), [][]int{{0, 1}, {0, 2}, {1, 2}}},
		{seats(), nil, nil},
		{nil, nil, nil},
		{seats(), orders()[3:], nil},
		{nil, orders(), [][]int{{0}, {1}, {2}, {3}}},
		{open(4), []api.Order{order(1, 2, 0, 2000, 0), order(2, 3, 0, 2000, 0), order(3, 5, 0, 2000, 0), order(4, 1, 0, 2000, 0), order(5, 1, 0, 2000, 0)}, [][]int{{2}, {0, 1}, {1, 3, 4}}},
		{open(2), like(4, 1), [][]int{{0, 1, 2}, {0, 1, 3}, {0, 2, 3}, {1, 2, 3}}},
		{open(7), like(8, 1), [][]int{{0, 1, 2, 3, 4, 5, 6, 7}}},
		{open(8), like(8, 1), nil},
	} {
		if s, e := plan.Crowds(x.k, x.l); !areRows(s, x.want) || e != api.OK {
			t.Error(x, s, e)
		}
	}
	if s, e := plan.Crowds(open(4), like(8, 1)); len(s) != 56 || e != api.OK {
		t.Error(s, e)
	}
}

// bySize orders sets by how many orders they have, and those of as many by R6.
func bySize(a, b []int) int { return cmp.Or(cmp.Compare(len(a), len(b)), slices.Compare(a, b)) }

// crowds returns all crowded sets within a set, by size.
func (w world) crowds(set []int) [][]int {
	crowds := slices.DeleteFunc(subsets(set), func(some []int) bool { return !w.isCrowded(some) })
	slices.SortFunc(crowds, bySize)
	return crowds
}

func TestCrowdOfAnySet(t *testing.T) {
	r := rand.New(rand.NewSource(8))
	var seen [6]int
	for range 1000 {
		w := someWorld(r, 6, 5)
		for _, set := range w.sets() {
			s, e := plan.Crowd(w.k, w.l, set)
			crowds := w.crowds(set)
			if len(crowds) == 0 && (len(s) != 0 || e != api.ErrFitted) {
				t.Fatal(w, set, s, e)
			}
			if len(crowds) > 0 && (!slices.Equal(s, crowds[0]) || e != api.OK) {
				t.Fatal(w, set, s, crowds, e)
			}
			seen[len(s)]++
			e = plan.CheckCrowd(w.k, w.l, set)
			if w.isCrowded(set) != (e == api.OK) || e != api.OK && e != api.ErrFitted {
				t.Fatal(w, set, e)
			}
		}
	}
	if slices.Min(seen[:4]) < 50 {
		t.Error("the cases are lopsided", seen)
	}
}

func TestCrowdsOfAnyOrders(t *testing.T) {
	r := rand.New(rand.NewSource(9))
	var seen [6]int
	for range 1000 {
		w := someWorld(r, 6, 5)
		var want [][]int
		for _, set := range w.crowds(w.all()) {
			if !slices.ContainsFunc(want, func(some []int) bool { return isIn(some, set) }) {
				want = append(want, set)
			}
		}
		s, e := plan.Crowds(w.k, w.l)
		if !areRows(s, want) || e != api.OK {
			t.Fatal(w, s, want, e)
		}
		for _, set := range s {
			seen[len(set)]++
		}
	}
	if slices.Min(seen[1:4]) < 50 {
		t.Error("the cases are lopsided", seen)
	}
}

func TestCrowdsShareNoMemory(t *testing.T) {
	s, _ := plan.Crowds(seats(), orders())
	for i := range s {
		s[i] = append(s[i], 9)
		s[i][0] = 7
	}
	if !areRows(s, [][]int{{7, 1, 9}, {7, 2, 9}, {7, 2, 9}}) {
		t.Error(s)
	}
}
