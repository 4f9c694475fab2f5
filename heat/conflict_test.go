package heat_test

import (
	"math"
	"math/rand"
	"slices"
	"testing"

	"potbank/api"
	"potbank/heat"
)

func TestConflictExamples(t *testing.T) {
	for _, x := range []struct {
		f    api.Firing
		want []int
		e    api.Errno
	}{
		{falseF(), []int{1, 4}, api.OK}, {firingF(), nil, api.ErrNone}, {firing(kilnK()), nil, api.ErrNone},
		// A source that contradicts itself, and one that does by what it tells at two places.
		{firing(kilnK(), bent(7, 0, 1200), standing(7, 0, 1200), bent(3, 1, 5)), []int{7}, api.OK},
		{firing(kilnK(), bent(7, 0, 1000), bent(3, 1, 5), standing(7, 1, 600)), []int{7}, api.OK},
		// The greatest ones are left out first.
		{firing(kilnK(), bent(9, 0, 100), bent(8, 0, 100), standing(7, 0, 100), standing(6, 0, 100)), []int{6, 8}, api.OK},
		// One for each of the mouths, and one more.
		{firing(kilnK(), standing(2, 0, 801), standing(3, 2, 801), bent(4, 1, 801)), []int{2, 3, 4}, api.OK},
	} {
		l, e := heat.Conflict(x.f)
		if !slices.Equal(l, x.want) || e != x.e {
			t.Error(x, l, e)
		}
	}
}

// isSoundOf tells whether the readings of some sources alone are sound, by all fields.
func isSoundOf(f api.Firing, sources []int) bool {
	alone := firing(f.Kiln)
	for _, r := range f.Readings {
		if slices.Contains(sources, r.Source) {
			alone.Readings = append(alone.Readings, r)
		}
	}
	// Without a cap the mouths may be hotter, but need not be.
	for range histories(alone, 20) {
		return true
	}
	return false
}

// isConflict is the chapter's definition, for sources that are strictly increasing.
func isConflict(f api.Firing, by []int) bool {
	if isSoundOf(f, by) {
		return false
	}
	for i := range by {
		if !isSoundOf(f, slices.Delete(slices.Clone(by), i, i+1)) {
			return false
		}
	}
	return true
}

// leftOut leaves sources out as the chapter says, from the greatest to the least.
func leftOut(f api.Firing, sources []int) []int {
	for i := len(sources) - 1; i >= 0; i-- {
		if rest := slices.Delete(slices.Clone(sources), i, i+1); !isSoundOf(f, rest) {
			sources = rest
		}
	}
	return sources
}

// checkChoices holds CheckConflict of all choices of sources against the definition.
func checkChoices(t *testing.T, f api.Firing, sources []int) {
	t.Helper()
	for choice := range 1 << len(sources) {
		var by []int
		for i, source := range sources {
			if choice>>i&1 == 1 {
				by = append(by, source)
			}
		}
		want := api.ErrConflict
		if isConflict(f, by) {
			want = api.OK
		}
		if e := heat.CheckConflict(f, by); e != want {
			t.Fatal(f, by, e)
		}
	}
}

func TestConflictOfMany(t *testing.T) {
	var seen [4]int
	s := someFirings{r: rand.New(rand.NewSource(21)), mouths: 2, places: 3, readings: 7, sources: 5, coldest: 1, marks: 8, rise: 3, falls: 9, wide: 2}
	// Each mouth is near one place, so that a low heat of another one does not keep both cold.
	corners := api.Kiln{Falls: [][]api.Range{{span(0, 1), span(4, 5), span(9, 10)}, {span(9, 10), span(4, 5), span(0, 1)}}}
	for i := range 2000 {
		f := s.firing()
		if i%2 == 0 {
			f = firing(corners)
			for _, source := range s.r.Perm(5) {
				reading := s.reading(corners)
				reading.Source = source + 1
				f.Readings = append(f.Readings, reading)
			}
		}
		sources, _ := heat.Sources(f)
		l, e := heat.Conflict(f)
		if isSoundOf(f, sources) {
			if len(l) != 0 || e != api.ErrNone {
				t.Fatal(f, l, e)
			}
			seen[0]++
		} else {
			if !slices.Equal(l, leftOut(f, sources)) || len(l) > len(f.Kiln.Falls)+1 || e != api.OK {
				t.Fatal(f, l, e)
			}
			seen[len(l)]++
		}
		checkChoices(t, f, sources)
	}
	if slices.Min(seen[:]) < 20 {
		t.Error("the cases are lopsided", seen)
	}
}

// Of firings of up to six mouths: cones stand until they contradict the others.
func TestConflictOfBigFirings(t *testing.T) {
	r := rand.New(rand.NewSource(22))
	seen := map[int]int{}
	for range 1000 {
		f, _ := someBig(r)
		for is := true; is && len(f.Readings) < 60; is, _ = heat.Sound(f) {
			f.Readings = append(f.Readings, standing(100+r.Intn(30), r.Intn(len(f.Kiln.Falls[0])), 1+r.Intn(2000)))
		}
		l, e := heat.Conflict(f)
		if e == api.ErrNone {
			continue
		}
		if e2 := heat.CheckConflict(f, l); len(l) > len(f.Kiln.Falls)+1 || e != api.OK || e2 != api.OK {
			t.Fatal(f, l, e, e2)
		}
		seen[len(l)]++
	}
	if seen[2] < 50 || seen[3] < 50 || seen[4] == 0 {
		t.Error("the cases are lopsided", seen)
	}
}

func TestCheckConflictExamples(t *testing.T) {
	f := firing(kilnK(), bent(9, 0, 100), bent(8, 0, 100), standing(7, 0, 100), standing(6, 0, 100))
	for _, x := range []struct {
		by   []int
		want api.Errno
	}{
		{[]int{6, 8}, api.OK}, {[]int{6, 9}, api.OK}, {[]int{7, 8}, api.OK}, {[]int{7, 9}, api.OK},
		{nil, api.ErrConflict}, {[]int{6}, api.ErrConflict}, {[]int{6, 7}, api.ErrConflict}, {[]int{8, 9}, api.ErrConflict},
		{[]int{6, 7, 8}, api.ErrConflict}, {[]int{6, 7, 8, 9}, api.ErrConflict}, {[]int{8, 6}, api.ErrConflict}, {[]int{6, 6, 8}, api.ErrConflict},
		{[]int{6, 8, 8}, api.ErrConflict}, {[]int{5, 6, 8}, api.ErrConflict}, {[]int{6, 8, 10}, api.ErrConflict}, {[]int{0, 6, 8}, api.ErrConflict},
		{[]int{math.MinInt, 6, 8}, api.ErrConflict}, {[]int{6, 8, math.MaxInt}, api.ErrConflict},
	} {
		if e := heat.CheckConflict(f, x.by); e != x.want {
			t.Error(x, e)
		}
	}
	for _, by := range [][]int{nil, {1}, {1, 2}, {1, 2, 3}} {
		if e := heat.CheckConflict(firingF(), by); e != api.ErrConflict {
			t.Error(by, e)
		}
	}
	if e := heat.CheckConflict(falseF(), []int{1, 4}); e != api.OK {
		t.Error(e)
	}
	one := firing(kilnK(), bent(7, 0, 1200), standing(7, 0, 1200))
	if e := heat.CheckConflict(one, []int{7}); e != api.OK {
		t.Error(e)
	}
	if e := heat.CheckConflict(firing(kilnK()), nil); e != api.ErrConflict {
		t.Error(e)
	}
}
