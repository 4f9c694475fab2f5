package heat_test

import (
	"iter"
	"math"
	"math/rand"
	"slices"
	"testing"

	"potbank/api"
	"potbank/heat"
)

// agrees holds a heat of a place against one reading at it.
func agrees(r api.Reading, heat int) bool {
	switch r.Kind {
	case api.Bent:
		return heat >= r.Mark
	case api.Standing:
		return heat < r.Mark
	}
	return r.Heat.Lo <= heat && heat <= r.Heat.Hi
}

// agreesAll holds a heat of a place against all readings at it.
func agreesAll(f api.Firing, place, heat int) bool {
	for _, r := range f.Readings {
		if r.Place == place && !agrees(r, heat) {
			return false
		}
	}
	return true
}

// numbers yields all lists of so many numbers from 0 to top, in the same memory.
func numbers(many, top int) iter.Seq[[]int] {
	return func(yield func([]int) bool) {
		now := make([]int, many)
		var choose func(i int) bool
		choose = func(i int) bool {
			if i == many {
				return yield(now)
			}
			for now[i] = 0; now[i] <= top; now[i]++ {
				if !choose(i + 1) {
					return false
				}
			}
			return true
		}
		choose(0)
	}
}

// eachHeat calls do for each heat that a place has with some falls, beside these heats of the mouths.
func eachHeat(k api.Kiln, mouths []int, place int, do func(heat int)) {
	var fall func(j, heat int)
	fall = func(j, heat int) {
		if j == len(mouths) {
			do(heat)
			return
		}
		for n := k.Falls[j][place].Lo; n <= k.Falls[j][place].Hi; n++ {
			fall(j+1, max(heat, mouths[j]-n))
		}
	}
	fall(0, math.MinInt)
}

// history is what a firing may have been: heats of the mouths, and for each place all heats that agree with the readings at it. As each fall is to one place, the places have these heats independently of one another.
type history struct {
	mouths []int
	heats  [][]int
}

// histories yields all histories of a firing none of whose mouths can be hotter than top, in the same memory.
func histories(f api.Firing, top int) iter.Seq[history] {
	return func(yield func(history) bool) {
		h := history{heats: make([][]int, len(f.Kiln.Falls[0]))}
	all:
		for h.mouths = range numbers(len(f.Kiln.Falls), top) {
			for p := range h.heats {
				h.heats[p] = h.heats[p][:0]
				eachHeat(f.Kiln, h.mouths, p, func(heat int) {
					if agreesAll(f, p, heat) {
						h.heats[p] = append(h.heats[p], heat)
					}
				})
				if len(h.heats[p]) == 0 {
					continue all
				}
			}
			if !yield(h) {
				return
			}
		}
	}
}

// known is what all histories of a firing have together.
type known struct {
	sound   bool
	hottest []int
	heats   []map[int]bool
}

func knownOf(f api.Firing, top int) known {
	k := known{hottest: make([]int, len(f.Kiln.Falls)), heats: make([]map[int]bool, len(f.Kiln.Falls[0]))}
	for p := range k.heats {
		k.heats[p] = map[int]bool{}
	}
	for h := range histories(f, top) {
		k.sound = true
		for j, n := range h.mouths {
			k.hottest[j] = max(k.hottest[j], n)
		}
		for p, heats := range h.heats {
			for _, n := range heats {
				k.heats[p][n] = true
			}
		}
	}
	return k
}

// warmest is hotter than any mouth of the firings of small can be.
const warmest = 15

// small makes a firing whose mouths are capped: a cone of at most 8 stands, and no fall is above 5.
func small(r *rand.Rand, mouths int) api.Firing {
	s := someFirings{r: r, mouths: mouths, places: 3, readings: 4, sources: 4, coldest: 1, marks: 8, rise: 3, falls: 4, wide: 3}
	f := s.firing()
	cap := standing(5, r.Intn(len(f.Kiln.Falls[0])), 4+r.Intn(5))
	f.Readings = slices.Insert(f.Readings, r.Intn(len(f.Readings)+1), cap)
	return f
}

// smalls yields many firings of small, most of them of few mouths.
func smalls(seed int64, many int) iter.Seq[api.Firing] {
	return func(yield func(api.Firing) bool) {
		r := rand.New(rand.NewSource(seed))
		for i := range many {
			mouths := 2
			if i%10 == 0 {
				mouths = 3
			}
			if !yield(small(r, mouths)) {
				return
			}
		}
	}
}

// fieldX is the field of the chapter's example, of K.
func fieldX() api.Field {
	return api.Field{Mouths: []int{1200, 1000}, Falls: [][]int{{150, 350, 700}, {700, 350, 150}}}
}

func isNoField(x api.Field) bool { return len(x.Mouths) == 0 && len(x.Falls) == 0 }

func isSameField(x, y api.Field) bool {
	return slices.Equal(x.Mouths, y.Mouths) && slices.EqualFunc(x.Falls, y.Falls, slices.Equal[[]int])
}

// wrongFields lists fields that are not of K.
func wrongFields() []api.Field {
	fields := []api.Field{{}, {Mouths: []int{1200, 1000}}, {Falls: fieldX().Falls}}
	change := func(change func(x *api.Field)) {
		x := fieldX()
		change(&x)
		fields = append(fields, x)
	}
	change(func(x *api.Field) { x.Mouths = x.Mouths[:1] })
	change(func(x *api.Field) { x.Mouths = append(x.Mouths, 1000) })
	change(func(x *api.Field) { x.Falls = x.Falls[:1] })
	change(func(x *api.Field) { x.Falls = append(x.Falls, []int{700, 350, 150}) })
	change(func(x *api.Field) { x.Mouths, x.Falls = x.Mouths[:1], x.Falls[:1] })
	change(func(x *api.Field) {
		x.Mouths, x.Falls = append(x.Mouths, 1000), append(x.Falls, []int{700, 350, 150})
	})
	for j := range 2 {
		change(func(x *api.Field) { x.Falls[j] = x.Falls[j][:2] })
		change(func(x *api.Field) { x.Falls[j] = append(x.Falls[j], 150) })
		change(func(x *api.Field) { x.Falls[j] = nil })
		for _, n := range wrongNumbers(0, 3000) {
			change(func(x *api.Field) { x.Mouths[j] = n })
		}
		for p, r := range kilnK().Falls[j] {
			for _, n := range wrongNumbers(r.Lo, r.Hi) {
				change(func(x *api.Field) { x.Falls[j][p] = n })
			}
		}
	}
	return fields
}

func TestHeatsExamples(t *testing.T) {
	one := even(1, 2, span(0, 3000))
	for _, x := range []struct {
		k    api.Kiln
		x    api.Field
		want []int
	}{
		{kilnK(), fieldX(), []int{1050, 850, 850}},
		{kilnK(), api.Field{Mouths: []int{0, 0}, Falls: [][]int{{200, 300, 800}, {600, 400, 200}}}, []int{-200, -300, -200}},
		{kilnK(), api.Field{Mouths: []int{3000, 0}, Falls: [][]int{{100, 400, 600}, {600, 300, 100}}}, []int{2900, 2600, 2400}},
		{one, api.Field{Mouths: []int{3000}, Falls: [][]int{{0, 3000}}}, []int{3000, 0}},
		{one, api.Field{Mouths: []int{0}, Falls: [][]int{{0, 3000}}}, []int{0, -3000}},
	} {
		if l, e := heat.Heats(x.k, x.x); !slices.Equal(l, x.want) || e != api.OK {
			t.Error(x, l, e)
		}
	}
}

// someField returns a field of a kiln with heats of the mouths up to top.
func someField(r *rand.Rand, k api.Kiln, top int) api.Field {
	var x api.Field
	for _, ranges := range k.Falls {
		x.Mouths = append(x.Mouths, r.Intn(top+1))
		var falls []int
		for _, fall := range ranges {
			falls = append(falls, fall.Lo+r.Intn(fall.Hi-fall.Lo+1))
		}
		x.Falls = append(x.Falls, falls)
	}
	return x
}

func TestHeatsAndCheckField(t *testing.T) {
	r := rand.New(rand.NewSource(1))
	var seen [2]int
	for f := range smalls(2, 20000) {
		x := someField(r, f.Kiln, warmest)
		heats, e := heat.Heats(f.Kiln, x)
		if len(heats) != len(f.Kiln.Falls[0]) || e != api.OK {
			t.Fatal(f, x, heats, e)
		}
		want, case_ := api.OK, 0
		for p, n := range heats {
			var from []int
			for j := range x.Mouths {
				from = append(from, x.Mouths[j]-x.Falls[j][p])
			}
			if n != slices.Max(from) {
				t.Fatal(f, x, p, n, from)
			}
			if !agreesAll(f, p, n) {
				want, case_ = api.ErrField, 1
			}
		}
		if e := heat.CheckField(f, x); e != want {
			t.Fatal(f, x, e)
		}
		seen[case_]++
	}
	if slices.Min(seen[:]) < 500 {
		t.Error("the cases are lopsided", seen)
	}
}

func TestCheckFieldExamples(t *testing.T) {
	for _, f := range []api.Firing{
		firing(kilnK()), firingF(), firingF(ring(4, 1, 850, 850)), firingF(ring(4, 1, 1, 850)), firingF(ring(4, 1, 850, 2000)),
		firingF(bent(4, 1, 850)), firingF(standing(4, 1, 851)), firingF(bent(4, 0, 1050), standing(4, 0, 1051)),
	} {
		if e := heat.CheckField(f, fieldX()); e != api.OK {
			t.Error(f, e)
		}
		for _, x := range wrongFields() {
			if e := heat.CheckField(f, x); e != api.ErrField {
				t.Error(f, x, e)
			}
		}
	}
	for _, f := range []api.Firing{
		falseF(), firingF(bent(4, 1, 851)), firingF(standing(4, 1, 850)), firingF(ring(4, 1, 851, 900)), firingF(ring(4, 1, 1, 849)),
		firing(kilnK(), standing(1, 0, 1050)), firing(kilnK(), bent(1, 2, 851)), firing(kilnK(), bent(1, 2, 851), bent(1, 2, 5)),
	} {
		if e := heat.CheckField(f, fieldX()); e != api.ErrField {
			t.Error(f, e)
		}
	}
	for _, x := range wrongFields() {
		if l, e := heat.Heats(kilnK(), x); len(l) != 0 || e != api.ErrField {
			t.Error(x, l, e)
		}
	}
}
