package plan_test

import (
	"math"
	"math/rand"
	"slices"
	"testing"

	"potbank/api"
	"potbank/plan"
)

func TestFitsExamples(t *testing.T) {
	for _, x := range []struct {
		set  []int
		want bool
	}{
		{[]int{0, 1}, false},
		{[]int{1, 2}, false},
		{[]int{0, 2}, false},
		{[]int{0, 3}, true},
		{[]int{1, 3}, true},
		{[]int{2, 3}, true},
		{[]int{0, 1, 2, 3}, false},
		{[]int{0, 1, 3}, false},
		{[]int{0}, true},
		{nil, true},
	} {
		if is, e := plan.Fits(seats(), orders(), x.set); is != x.want || e != api.OK {
			t.Error(x, is, e)
		}
	}
	if is, e := plan.Fits(nil, orders(), nil); !is || e != api.OK {
		t.Error("nothing goes anywhere", is, e)
	}
	if is, e := plan.Fits(nil, orders(), []int{0}); is || e != api.OK {
		t.Error("nowhere to go", is, e)
	}
	if is, e := plan.Fits(nil, nil, nil); !is || e != api.OK {
		t.Error(is, e)
	}
	// The two have room enough together, but one of them alone does not.
	l := []api.Order{order(1, 1, 1000, 1120, 4), order(2, 11, 1000, 1050, 4)}
	if is, e := plan.Fits(seats(), l, []int{0, 1}); is || e != api.OK {
		t.Error(is, e)
	}
}

func TestStowExamples(t *testing.T) {
	for _, x := range []struct {
		set  []int
		want [][]int
	}{
		{nil, [][]int{{0, 0, 0}, {0, 0, 0}, {0, 0, 0}, {0, 0, 0}}},
		{[]int{0}, [][]int{{8, 0, 0}, {0, 0, 0}, {0, 0, 0}, {0, 0, 0}}},
		{[]int{2}, [][]int{{0, 0, 0}, {0, 0, 0}, {5, 0, 0}, {0, 0, 0}}},
	} {
		if s, e := plan.Stow(seats(), orders(), x.set); !areRows(s.Rows, x.want) || e != api.OK {
			t.Error(x, s, e)
		}
	}
	for _, set := range [][]int{{0, 1}, {1, 2}, {0, 2}, {0, 1, 2, 3}} {
		if s, e := plan.Stow(seats(), orders(), set); len(s.Rows) != 0 || e != api.ErrCrowd {
			t.Error(set, s, e)
		}
	}
	if s, e := plan.Stow(seats(), nil, nil); len(s.Rows) != 0 || e != api.OK {
		t.Error("no orders", s, e)
	}
	if s, e := plan.Stow(nil, orders(), nil); !areRows(s.Rows, [][]int{nil, nil, nil, nil}) || e != api.OK {
		t.Error("no seats", s, e)
	}
}

// The orders that come first take the seats that suit the others; these must drive them from seat to seat.
func TestStowMovesOrders(t *testing.T) {
	var w world
	for i := range 8 {
		w.k = append(w.k, seat(100+i, 100+i, 0, 1000))
		w.l = append(w.l, order(i+1, 1000, 100, 107-i, 0))
	}
	w.k = append(w.k, seat(50, 50, 9, 1000), seat(100, 107, 0, 0))
	s, e := plan.Stow(w.k, w.l, w.all())
	if !w.isStowed(w.all(), s.Rows) || e != api.OK {
		t.Error(s, e)
	}
	w.k[3].Holds--
	if s, e := plan.Stow(w.k, w.l, w.all()); len(s.Rows) != 0 || e != api.ErrCrowd {
		t.Error(s, e)
	}
}

func TestStowOfAnySet(t *testing.T) {
	r := rand.New(rand.NewSource(3))
	var seen [2]int
	for range 600 {
		w := someWorld(r, 4, 5)
		for _, set := range w.sets() {
			want := w.standsAll(set)
			if is, e := plan.Fits(w.k, w.l, set); is != want || e != api.OK {
				t.Fatal(w, set, is, e)
			}
			s, e := plan.Stow(w.k, w.l, set)
			if !want && (len(s.Rows) != 0 || e != api.ErrCrowd) {
				t.Fatal(w, set, s, e)
			}
			if want && (!w.isStowed(set, s.Rows) || e != api.OK || plan.CheckStow(w.k, w.l, set, s) != api.OK) {
				t.Fatal(w, set, s, e)
			}
			if len(set) > 1 && want {
				seen[1]++
			} else if len(set) > 1 {
				seen[0]++
			}
		}
	}
	if slices.Min(seen[:]) < 500 {
		t.Error("the cases are lopsided", seen)
	}
}

// P6.2: either there is a stowage, or a crowded set.
func TestStowedOrCrowded(t *testing.T) {
	r := rand.New(rand.NewSource(4))
	var seen [2]int
	for range 100 {
		w := great(r)
		for _, set := range w.sets() {
			s, e := plan.Stow(w.k, w.l, set)
			crowd, f := plan.Crowd(w.k, w.l, set)
			switch {
			case e == api.OK && f == api.ErrFitted:
				seen[1]++
				if !w.isStowed(set, s.Rows) || plan.CheckStow(w.k, w.l, set, s) != api.OK {
					t.Fatal(w, set, s)
				}
			case e == api.ErrCrowd && f == api.OK:
				seen[0]++
				if !isIn(crowd, set) || !w.isCrowded(crowd) || plan.CheckCrowd(w.k, w.l, crowd) != api.OK {
					t.Fatal(w, set, crowd)
				}
			default:
				t.Fatal(w, set, e, f)
			}
		}
	}
	if slices.Min(seen[:]) < 500 {
		t.Error("the cases are lopsided", seen)
	}
}

func TestStowagesShareNoMemory(t *testing.T) {
	s, _ := plan.Stow(seats(), orders(), []int{1, 3})
	want := slices.Clone(s.Rows[1])
	for _, i := range []int{0, 2} {
		s.Rows[i] = append(s.Rows[i], 9)
		s.Rows[i][0] = 7
	}
	if !slices.Equal(s.Rows[1], want) {
		t.Error(s.Rows)
	}
}

func TestCheckStowExamples(t *testing.T) {
	for _, x := range []struct {
		set  []int
		rows [][]int
		want api.Errno
	}{
		{[]int{0, 3}, [][]int{{8, 0, 0}, {0, 0, 0}, {0, 0, 0}, {0, 0, 20}}, api.OK},
		{[]int{0, 3}, [][]int{{8, 0, 0}, nil, nil, {0, 0, 20}}, api.ErrLoaded},
		{[]int{0, 3}, [][]int{{8, 0, 0}, {0, 0, 0}, {0, 0, 0}, {2, 6, 12}}, api.OK},
		{[]int{0, 3}, [][]int{{8, 0, 0}, {0, 0, 0}, {0, 0, 0}, {3, 6, 11}}, api.ErrLoaded},
		{[]int{0, 3}, [][]int{{8, 0, 0}, {0, 0, 0}, {0, 0, 0}, {0, 0, 19}}, api.ErrLoaded},
		{[]int{0, 3}, [][]int{{8, 0, 0}, {0, 0, 0}, {0, 0, 0}, {0, 1, 20}}, api.ErrLoaded},
		{[]int{0, 3}, [][]int{{8, 0, 0}, {0, 0, 0}, {0, 0, 0}, {0, 7, 13}}, api.ErrLoaded},
		{[]int{0, 3}, [][]int{{7, 1, 0}, {0, 0, 0}, {0, 0, 0}, {0, 0, 20}}, api.ErrLoaded}, // too hot
		{[]int{0, 3}, [][]int{{7, 0, 1}, {0, 0, 0}, {0, 0, 0}, {0, 1, 19}}, api.ErrLoaded}, // its class
		{[]int{0, 3}, [][]int{{9, -1, 0}, {0, 0, 0}, {0, 0, 0}, {0, 0, 20}}, api.ErrLoaded},
		{[]int{0, 3}, [][]int{{8, 0, 0}, {0, 1, 0}, {0, 0, 0}, {0, 0, 20}}, api.ErrLoaded}, // not in the set
		{[]int{0, 3}, [][]int{{8, 0, 0}, {0, 1, -1}, {0, 0, 0}, {0, 0, 20}}, api.ErrLoaded},
		{[]int{0}, [][]int{{8, 0, 0}, {0, 0, 0}, {0, 0, 0}, {0, 0, 20}}, api.ErrLoaded},
		{[]int{0, 3}, [][]int{{8, 0, 0}, {0, 0, 0}, {0, 0, 0}, {0, 0, 20}, {0, 0, 0}}, api.ErrLoaded},
		{[]int{0}, [][]int{{8, 0, 0}, {0, 0, 0}, {0, 0, 0}}, api.ErrLoaded},
		{[]int{0}, [][]int{{8, 0}, {0, 0, 0}, {0, 0, 0}, {0, 0, 0}}, api.ErrLoaded},
		{[]int{0}, [][]int{{8, 0, 0, 0}, {0, 0, 0}, {0, 0, 0}, {0, 0, 0}}, api.ErrLoaded},
		{[]int{0}, [][]int{{8, 0, 0}, {0, 0, 0}, {0, 0, 0, 0}, {0, 0, 0}}, api.ErrLoaded},
		{[]int{0}, nil, api.ErrLoaded},
		{nil, nil, api.ErrLoaded},
		{nil, [][]int{{0, 0, 0}, {0, 0, 0}, {0, 0, 0}, {0, 0, 0}}, api.OK},
		// These sums do not fit an int.
		{[]int{3}, [][]int{{0, 0, 0}, {0, 0, 0}, {0, 0, 0}, {math.MaxInt, math.MaxInt, 22}}, api.ErrLoaded},
		{[]int{3}, [][]int{{0, 0, 0}, {0, 0, 0}, {0, 0, 0}, {math.MinInt, math.MinInt, 20}}, api.ErrLoaded},
		{[]int{1, 3}, [][]int{{0, 0, 0}, {12, 0, 0}, {0, 0, 0}, {-2, 2, 20}}, api.ErrLoaded},
	} {
		if e := plan.CheckStow(seats(), orders(), x.set, api.Stowage{Rows: x.rows}); e != x.want {
			t.Error(x, e)
		}
	}
	for _, rows := range [][][]int{nil, {}} {
		if e := plan.CheckStow(seats(), nil, nil, api.Stowage{Rows: rows}); e != api.OK {
			t.Error("no orders", e)
		}
	}
	for _, rows := range [][][]int{{nil, nil, nil, nil}, {{}, {}, {}, {}}} {
		if e := plan.CheckStow(nil, orders(), nil, api.Stowage{Rows: rows}); e != api.OK {
			t.Error("no seats", e)
		}
		if e := plan.CheckStow(nil, orders(), []int{2}, api.Stowage{Rows: rows}); e != api.ErrLoaded {
			t.Error("no seats", e)
		}
	}
}

func TestCheckStowOfAnyRows(t *testing.T) {
	r := rand.New(rand.NewSource(5))
	var seen [2]int
	for range 4000 {
		w := someWorld(r, 3, 3)
		for _, set := range w.sets() {
			s, e := plan.Stow(w.k, w.l, set)
			if e != api.OK {
				continue
			}
			// A saggar is moved, put in or left out; or none is.
			for range r.Intn(3) {
				if len(w.l) > 0 && len(w.k) > 0 {
					s.Rows[r.Intn(len(w.l))][r.Intn(len(w.k))] += 1 - 2*r.Intn(2)
				}
			}
			want := w.isStowed(set, s.Rows)
			e = plan.CheckStow(w.k, w.l, set, s)
			if want != (e == api.OK) || !want && e != api.ErrLoaded {
				t.Fatal(w, set, s, e)
			}
			if want {
				seen[1]++
			} else {
				seen[0]++
			}
		}
	}
	if slices.Min(seen[:]) < 500 {
		t.Error("the cases are lopsided", seen)
	}
}

// P6.7: at whatever heat of its seat a saggar is fired, the heat lies within its order's.
func TestHeatsOfStowages(t *testing.T) {
	r := rand.New(rand.NewSource(6))
	many := 0
	for range 60 {
		w := great(r)
		for _, set := range w.sets() {
			s, e := plan.Stow(w.k, w.l, set)
			if e != api.OK {
				continue
			}
			for i, row := range s.Rows {
				for at, n := range row {
					heat := w.k[at].Heat.Lo + r.Intn(w.k[at].Heat.Hi-w.k[at].Heat.Lo+1)
					if n > 0 && (heat < w.l[i].Heat.Lo || heat > w.l[i].Heat.Hi) {
						t.Fatal(w, set, s)
					}
					many += n
				}
			}
		}
	}
	if many < 1000 {
		t.Error("the cases are lopsided", many)
	}
}

// P6.4: what goes into one firing does so with fewer orders, with one more seat, and with a wider heat.
func TestFitsMore(t *testing.T) {
	r := rand.New(rand.NewSource(7))
	many := 0
	for range 300 {
		w := someWorld(r, 6, 5)
		for _, set := range w.sets() {
			if !w.fits(set) || len(set) == 0 {
				continue
			}
			many++
			for _, some := range subsets(set) {
				if !w.fits(some) {
					t.Fatal(w, set, some)
				}
			}
			more := world{append(slices.Clone(w.k), someSeat(r)), w.l}
			wider := world{w.k, slices.Clone(w.l)}
			heat := &wider.l[set[r.Intn(len(set))]].Heat
			heat.Lo, heat.Hi = r.Intn(heat.Lo+1), heat.Hi+r.Intn(3)
			if !more.fits(set) || !wider.fits(set) {
				t.Fatal(w, set)
			}
		}
	}
	if many < 500 {
		t.Error("the cases are lopsided", many)
	}
}
