package plan_test

import (
	"math"
	"math/rand"
	"slices"
	"testing"

	"potbank/api"
	"potbank/plan"
)

func TestReasonExamples(t *testing.T) {
	crowds := [][]int{{0, 1}, {0, 2}, {1, 2}}
	for firings := range 3 {
		if s, e := plan.Reason(seats(), orders(), firings); !areRows(s, crowds) || e != api.OK {
			t.Error(firings, s, e)
		}
	}
	for firings := 3; firings <= 8; firings++ {
		if s, e := plan.Reason(seats(), orders(), firings); len(s) != 0 || e != api.ErrFitted {
			t.Error(firings, s, e)
		}
	}
	for _, firings := range wrongNumbers(0, 8) {
		if s, e := plan.Reason(seats(), orders(), firings); len(s) != 0 || e != api.ErrArg {
			t.Error(firings, s, e)
		}
	}
	for firings := range 9 {
		if s, e := plan.Reason(seats(), nil, firings); len(s) != 0 || e != api.ErrFitted {
			t.Error("no orders", firings, s, e)
		}
		if s, e := plan.Reason(nil, orders(), firings); !areRows(s, [][]int{{0}, {1}, {2}, {3}}) || e != api.OK {
			t.Error("no seats", firings, s, e)
		}
	}
	if s, e := plan.Reason(open(10), like(2, 5), 0); len(s) != 0 || e != api.OK {
		t.Error("nothing is crowded, but no firing has no orders", s, e)
	}
	if s, e := plan.Reason(open(10), like(8, 10), 7); len(s) != 28 || e != api.OK {
		t.Error(s, e)
	}
}

func TestCheckReasonExamples(t *testing.T) {
	crowds := [][]int{{0, 1}, {0, 2}, {1, 2}}
	for _, x := range []struct {
		firings int
		sets    [][]int
		want    api.Errno
	}{
		{2, crowds, api.OK},
		{2, [][]int{{1, 2}, {0, 2}, {0, 1}, {0, 1}}, api.OK},
		{2, append(crowds, []int{0, 1, 2, 3}), api.OK},
		{2, crowds[:2], api.ErrReason}, // O1 and O2 might go together
		{2, crowds[1:], api.ErrReason},
		{2, append(crowds, []int{0, 3}), api.ErrReason},
		{2, append(crowds, nil), api.ErrReason},
		{2, [][]int{{0, 1, 2}}, api.ErrReason},
		{2, nil, api.ErrReason},
		{1, crowds, api.OK},
		{1, crowds[:1], api.OK},
		{1, [][]int{{0, 1, 2, 3}}, api.OK},
		{1, nil, api.ErrReason},
		{1, [][]int{{0, 3}}, api.ErrReason},
		{0, nil, api.OK},
		{0, crowds, api.OK},
		{0, crowds[2:], api.OK},
		{0, [][]int{{0, 3}}, api.ErrReason},
		{0, [][]int{{}}, api.ErrReason},
		{3, crowds, api.ErrReason},
		{8, crowds, api.ErrReason},
		{2, [][]int{{0, 1}, {0, 2}, {2, 1}}, api.ErrSetOf},
		{2, [][]int{{0, 1}, {0, 2}, {1, 1}}, api.ErrSetOf},
		{2, [][]int{{0, 1}, {0, 2}, {1, 4}}, api.ErrSetOf},
		{2, [][]int{{-1, 0}, {0, 1}, {0, 2}, {1, 2}}, api.ErrSetOf},
		{2, [][]int{{0, 3}, {math.MinInt}}, api.ErrSetOf}, // the one ahead is not crowded
		{8, [][]int{{0, math.MaxInt}}, api.ErrSetOf},
		{2, slices.Repeat(crowds, 85), api.OK},
		{2, append(slices.Repeat(crowds, 85), []int{0, 1}), api.OK},
		{2, slices.Repeat(crowds, 86), api.ErrLong},
		{3, slices.Repeat(crowds, 86), api.ErrLong},
		{3, slices.Repeat([][]int{{0}}, 256), api.ErrReason},
	} {
		if e := plan.CheckReason(seats(), orders(), x.firings, x.sets); e != x.want {
			t.Error(x, e)
		}
	}
	for _, firings := range wrongNumbers(0, 8) {
		if e := plan.CheckReason(seats(), orders(), firings, crowds); e != api.ErrArg {
			t.Error(firings, e)
		}
	}
	for firings := range 9 {
		for _, sets := range [][][]int{nil, {}, {{}}} {
			if e := plan.CheckReason(seats(), nil, firings, sets); e != api.ErrReason {
				t.Error("no orders", firings, sets, e)
			}
		}
		if e := plan.CheckReason(seats(), nil, firings, [][]int{{0}}); e != api.ErrSetOf {
			t.Error("no orders", firings, e)
		}
		if e := plan.CheckReason(nil, orders(), firings, [][]int{{2}}); e != api.OK {
			t.Error("one that goes nowhere", firings, e)
		}
	}
}

// isReason reports whether sets are a reason, as the chapter defines it.
func (w world) isReason(sets [][]int, n int) bool {
	if slices.ContainsFunc(sets, func(set []int) bool { return !w.isCrowded(set) }) {
		return false
	}
	isHit := func(firing []int) bool {
		return slices.ContainsFunc(sets, func(set []int) bool { return isIn(set, firing) })
	}
	for _, way := range w.ways(n) {
		if !slices.ContainsFunc(firingsOf(way, n), isHit) {
			return false
		}
	}
	return true
}

func TestReasonOfAnyOrders(t *testing.T) {
	r := rand.New(rand.NewSource(17))
	var seen [2][4]int
	for range 300 {
		w := someWorld(r, 6, 4)
		firings, keep := w.fewest()
		for n := range 5 {
			s, e := plan.Reason(w.k, w.l, n)
			if does := keep && n >= len(firings); does {
				seen[1][min(n, 3)]++
				if len(s) != 0 || e != api.ErrFitted {
					t.Fatal(w, n, s, e)
				}
				continue
			}
			seen[0][min(n, 3)]++
			crowds, _ := plan.Crowds(w.k, w.l)
			if !areRows(s, crowds) || !w.isReason(s, n) || e != api.OK || plan.CheckReason(w.k, w.l, n, s) != api.OK {
				t.Fatal(w, n, s, e)
			}
		}
	}
	for _, l := range seen {
		if slices.Min(l[:]) < 10 {
			t.Error("the cases are lopsided", seen)
		}
	}
}

func TestCheckReasonOfAnySets(t *testing.T) {
	r := rand.New(rand.NewSource(18))
	var seen [2][4]int
	for range 3000 {
		w := someWorld(r, 6, 4)
		sets := w.crowds(w.all())
		r.Shuffle(len(sets), func(i, j int) { sets[i], sets[j] = sets[j], sets[i] })
		sets = sets[r.Intn(len(sets)/2+1):]
		if all := w.sets(); r.Intn(5) == 0 {
			sets = append(sets, all[r.Intn(len(all))])
		}
		n := r.Intn(5)
		want := w.isReason(sets, n)
		e := plan.CheckReason(w.k, w.l, n, sets)
		if want != (e == api.OK) || !want && e != api.ErrReason {
			t.Fatal(w, n, sets, e)
		}
		if want {
			seen[1][min(n, 3)]++
		} else {
			seen[0][min(n, 3)]++
		}
	}
	for _, l := range seen {
		if slices.Min(l[:]) < 10 {
			t.Error("the cases are lopsided", seen)
		}
	}
}

// P6.3: the plan keeps the orders, one firing less has a reason, and as many have none.
func TestFewestHasAReason(t *testing.T) {
	r := rand.New(rand.NewSource(19))
	var seen [9]int
	for range 400 {
		w := great(r)
		for i := range w.l {
			w.l[i].Heat, w.l[i].Class = span(r.Intn(100), 900+r.Intn(1100)), r.Intn(3)
		}
		p, e := plan.Fewest(w.k, w.l)
		crowds, _ := plan.Crowds(w.k, w.l)
		if e == api.ErrCrowd {
			for n := range 9 {
				if plan.CheckReason(w.k, w.l, n, crowds) != api.OK {
					t.Fatal(w, n, crowds)
				}
			}
			continue
		}
		n := len(p.Firings)
		if plan.CheckPlan(w.k, w.l, p) != api.OK {
			t.Fatal(w, p)
		}
		s, e := plan.Reason(w.k, w.l, n-1)
		if !areRows(s, crowds) || e != api.OK || plan.CheckReason(w.k, w.l, n-1, s) != api.OK {
			t.Fatal(w, p, s, e)
		}
		if plan.CheckReason(w.k, w.l, n, crowds) != api.ErrReason {
			t.Fatal(w, p, crowds)
		}
		seen[n]++
	}
	if slices.Min(seen[1:4]) < 10 {
		t.Error("the cases are lopsided", seen)
	}
}

func TestReasonsShareNoMemory(t *testing.T) {
	s, _ := plan.Reason(seats(), orders(), 2)
	for i := range s {
		s[i] = append(s[i], 9)
	}
	if !areRows(s, [][]int{{0, 1, 9}, {0, 2, 9}, {1, 2, 9}}) {
		t.Error(s)
	}
}
