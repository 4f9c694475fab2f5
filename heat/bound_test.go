package heat_test

import (
	"math/rand"
	"slices"
	"testing"

	"potbank/api"
	"potbank/heat"
)

func TestBoundExamples(t *testing.T) {
	one := even(1, 1, span(0, 0))
	high := firing(even(2, 2, span(1000, 1500)), bent(1, 0, 2000))
	for _, x := range []struct {
		f       api.Firing
		hottest []int
		heats   []api.Range
	}{
		{firingF(), []int{1300, 1100}, []api.Range{span(1000, 1100), span(700, 1000), span(300, 900)}},
		{firing(kilnK()), []int{3000, 3000}, []api.Range{span(-200, 2900), span(-400, 2700), span(-200, 2900)}},
		{firing(one), []int{3000}, []api.Range{span(0, 3000)}},
		{firing(one, standing(1, 0, 1)), []int{0}, []api.Range{span(0, 0)}},
		{firing(one, ring(1, 0, 2000, 2000)), []int{2000}, []api.Range{span(2000, 2000)}},
		{firing(one, bent(1, 0, 2000)), []int{3000}, []api.Range{span(2000, 3000)}},
		{firing(even(1, 2, span(3000, 3000))), []int{3000}, []api.Range{span(-3000, 0), span(-3000, 0)}},
		// Only a mouth of 3000 gives a place 2000.
		{high, []int{3000, 3000}, []api.Range{span(2000, 2000), span(1500, 2000)}},
	} {
		if l, e := heat.Hottest(x.f); !slices.Equal(l, x.hottest) || e != api.OK {
			t.Error(x, l, e)
		}
		for p, want := range x.heats {
			if r, e := heat.Bound(x.f, p); r != want || e != api.OK {
				t.Error(x, p, r, e)
			}
		}
	}
}

func TestSoundExamples(t *testing.T) {
	zero := even(2, 2, span(0, 0))
	for _, x := range []struct {
		f    api.Firing
		want bool
	}{
		{firingF(), true}, {falseF(), false}, {firing(kilnK()), true}, {firingF(standing(4, 1, 701)), true}, {firingF(standing(4, 1, 700)), false},
		// One place contradicts itself, though hot enough.
		{firing(kilnK(), bent(1, 0, 1000), standing(2, 0, 1000)), false},
		{firing(kilnK(), bent(1, 0, 1000), standing(2, 0, 1001)), true},
		{firing(kilnK(), ring(1, 1, 100, 200), ring(2, 1, 200, 300)), true},
		{firing(kilnK(), ring(1, 1, 100, 200), ring(2, 1, 201, 300)), false},
		{firing(zero, bent(1, 0, 5), standing(1, 1, 5)), false},
		{firing(zero, bent(1, 0, 5), standing(1, 1, 6)), true},
		// The limit of mouths.
		{firing(even(2, 1, span(1000, 1000)), bent(1, 0, 2000)), true},
		{firing(even(2, 1, span(1001, 2000)), bent(1, 0, 2000)), false},
		{firing(even(1, 1, span(2999, 3000)), bent(1, 0, 1)), true},
		{firing(even(1, 1, span(3000, 3000)), bent(1, 0, 1)), false},
	} {
		if is, e := heat.Sound(x.f); is != x.want || e != api.OK {
			t.Error(x, is, e)
		}
	}
}

// checkKnown holds what is told of a firing against all of its fields.
func checkKnown(t *testing.T, f api.Firing, all known) {
	t.Helper()
	if is, e := heat.Sound(f); is != all.sound || e != api.OK {
		t.Fatal(f, is, e)
	}
	hottest, e := heat.Hottest(f)
	if !all.sound {
		if len(hottest) != 0 || e != api.ErrFalse {
			t.Fatal(f, hottest, e)
		}
		return
	}
	if !slices.Equal(hottest, all.hottest) || e != api.OK {
		t.Fatal(f, hottest, all.hottest, e)
	}
	for p, heats := range all.heats {
		bound, e := heat.Bound(f, p)
		if e != api.OK || len(heats) != bound.Hi-bound.Lo+1 {
			t.Fatal(f, p, bound, heats, e)
		}
		for n := range heats {
			if n < bound.Lo || n > bound.Hi {
				t.Fatal(f, p, bound, n)
			}
		}
		checkAttained(t, f, p, bound)
	}
}

// checkAttained tells whether fields show both ends of a place's range, and each number of it.
func checkAttained(t *testing.T, f api.Firing, place int, bound api.Range) {
	t.Helper()
	for high, want := range map[bool]int{false: bound.Lo, true: bound.Hi} {
		x, e := heat.Attain(f, place, high)
		if e != api.OK {
			t.Fatal(f, place, high, e)
		}
		checkHeat(t, f, x, place, want)
	}
	for n := bound.Lo; n <= min(bound.Hi, bound.Lo+20); n++ {
		x, e := heat.Show(f, []api.Want{{Place: place, Heat: span(n, n)}})
		if e != api.OK {
			t.Fatal(f, place, n, e)
		}
		checkHeat(t, f, x, place, n)
	}
}

func checkHeat(t *testing.T, f api.Firing, x api.Field, place, want int) {
	t.Helper()
	if e := heat.CheckField(f, x); e != api.OK {
		t.Fatal(f, x, place, want, e)
	}
	if l, e := heat.Heats(f.Kiln, x); e != api.OK || l[place] != want {
		t.Fatal(f, x, place, l, want, e)
	}
}

func TestBoundOfAllFields(t *testing.T) {
	var seen [2]int
	for f := range smalls(3, 3000) {
		all := knownOf(f, warmest)
		checkKnown(t, f, all)
		if all.sound {
			seen[1]++
		} else {
			seen[0]++
		}
	}
	if slices.Min(seen[:]) < 500 {
		t.Error("the cases are lopsided", seen)
	}
}

// With one mouth all of its heats can be gone through, up to its limit.
func TestBoundAtTheLimit(t *testing.T) {
	var seen [2]int
	s := someFirings{r: rand.New(rand.NewSource(4)), mouths: 1, places: 2, readings: 3, sources: 3, coldest: 1990, marks: 11, rise: 1, least: 997, falls: 4, wide: 3}
	for range 300 {
		f := s.firing()
		all := knownOf(f, api.MaxMouth)
		checkKnown(t, f, all)
		if all.sound {
			seen[1]++
		} else {
			seen[0]++
		}
	}
	if slices.Min(seen[:]) < 30 {
		t.Error("the cases are lopsided", seen)
	}
}

// someBig returns a firing of many mouths, places and readings, with numbers of all sizes; most are sound, as it is around a field.
func someBig(r *rand.Rand) (api.Firing, api.Field) {
	f := firing(even(1+r.Intn(6), 1+r.Intn(24), span(0, 0)))
	for _, falls := range f.Kiln.Falls {
		for p := range falls {
			lo := r.Intn(2000)
			falls[p] = span(lo, min(3000, lo+r.Intn(600)))
		}
	}
	x := someField(r, f.Kiln, api.MaxMouth)
	heats, _ := heat.Heats(f.Kiln, x)
	for range r.Intn(61) {
		p, source := r.Intn(len(heats)), 1+r.Intn(30)
		lo, hi := heats[p]-r.Intn(300), heats[p]+r.Intn(300)
		switch kind := r.Intn(3); {
		case kind == 0 && lo >= 1 && lo <= 2000:
			f.Readings = append(f.Readings, bent(source, p, lo))
		case kind == 1 && hi >= 0 && hi < 2000:
			f.Readings = append(f.Readings, standing(source, p, hi+1))
		case kind == 2 && lo >= 1 && hi <= 2000:
			f.Readings = append(f.Readings, ring(source, p, lo, hi))
		}
	}
	return f, x
}

// A field that agrees has no heat that is outside, and both ends are attained.
func TestBoundOfBigFirings(t *testing.T) {
	r := rand.New(rand.NewSource(5))
	for range 300 {
		f, x := someBig(r)
		if is, e := heat.Sound(f); !is || e != api.OK {
			t.Fatal(f, x, e)
		}
		heats, _ := heat.Heats(f.Kiln, x)
		hottest, _ := heat.Hottest(f)
		for j, n := range x.Mouths {
			if n > hottest[j] {
				t.Fatal(f, x, hottest)
			}
		}
		for p, n := range heats {
			bound, e := heat.Bound(f, p)
			if n < bound.Lo || n > bound.Hi || e != api.OK {
				t.Fatal(f, x, p, n, bound, e)
			}
			checkAttained(t, f, p, bound)
		}
	}
}

// The lists of one field share no memory, so that each can be appended to.
func TestFieldsShareNoMemory(t *testing.T) {
	attained, _ := heat.Attain(firingF(), 1, true)
	shown, _ := heat.Show(firingF(), []api.Want{want(1, 700, 700)})
	for _, x := range []api.Field{attained, shown} {
		falls := slices.Clone(x.Falls[1])
		_ = append(x.Mouths, -7)
		_ = append(x.Falls[0], -7, -7, -7)
		if !slices.Equal(x.Falls[1], falls) {
			t.Error(x, falls)
		}
	}
}

// isWithin reports whether a range lies within another one.
func isWithin(x, y api.Range) bool { return y.Lo <= x.Lo && x.Hi <= y.Hi }

func TestMoreIsNarrower(t *testing.T) {
	r := rand.New(rand.NewSource(6))
	narrower := 0
	for f := range smalls(7, 3000) {
		more := f
		more.Readings = append(slices.Clone(f.Readings), someFirings{r: r, sources: 9, coldest: 1, marks: 8, rise: 3}.reading(f.Kiln))
		if is, _ := heat.Sound(more); !is {
			continue
		}
		for p := range f.Kiln.Falls[0] {
			wide, e := heat.Bound(f, p)
			narrow, e2 := heat.Bound(more, p)
			if !isWithin(narrow, wide) || e != api.OK || e2 != api.OK {
				t.Fatal(f, more, p, wide, narrow, e, e2)
			}
			if narrow != wide {
				narrower++
			}
		}
	}
	if narrower < 300 {
		t.Error("the cases are lopsided", narrower)
	}
}

func TestMovesExamples(t *testing.T) {
	for _, x := range []struct {
		f     api.Firing
		place int
		want  []int
	}{
		{firingF(), 1, []int{1, 2, 3}},
		{firingF(), 0, []int{1, 2}}, {firingF(), 2, []int{1, 3}},
		{firing(kilnK()), 1, nil},
		// What two sources tell alike, neither moves; two readings of one source move together.
		{firingF(bent(7, 0, 1000)), 1, []int{2, 3}},
		{firingF(bent(1, 0, 1000)), 1, []int{1, 2, 3}},
		{firing(kilnK(), bent(9, 1, 700), ring(5, 1, 800, 900), standing(7, 1, 850)), 1, []int{5, 7}},
	} {
		if l, e := heat.Moves(x.f, x.place); !slices.Equal(l, x.want) || e != api.OK {
			t.Error(x, l, e)
		}
	}
}

func TestMovesOfMany(t *testing.T) {
	seen := map[int]int{}
	for f := range smalls(8, 3000) {
		if is, _ := heat.Sound(f); !is {
			continue
		}
		sources, _ := heat.Sources(f)
		for p := range f.Kiln.Falls[0] {
			bound, _ := heat.Bound(f, p)
			var want []int
			for _, source := range sources {
				rest, _ := heat.Without(f, source)
				if other, _ := heat.Bound(rest, p); other != bound {
					want = append(want, source)
				}
			}
			if l, e := heat.Moves(f, p); !slices.Equal(l, want) || e != api.OK {
				t.Fatal(f, p, l, want, e)
			}
			seen[len(want)]++
		}
	}
	if seen[0] < 100 || seen[1] < 100 || seen[2] < 100 {
		t.Error("the cases are lopsided", seen)
	}
}

// P4.7: of two places without readings the one to which all falls are at most those to the other one.
func TestNearerIsHotter(t *testing.T) {
	r := rand.New(rand.NewSource(9))
	for range 2000 {
		f, _ := someBig(r)
		places := len(f.Kiln.Falls[0])
		if places == 1 {
			continue
		}
		near, far := places-1, places-2
		f.Readings = slices.DeleteFunc(f.Readings, func(r api.Reading) bool { return r.Place >= far })
		for _, falls := range f.Kiln.Falls {
			falls[near].Lo = min(falls[near].Lo, falls[far].Lo)
			falls[near].Hi = min(falls[near].Hi, falls[far].Hi)
		}
		x, e := heat.Bound(f, near)
		y, e2 := heat.Bound(f, far)
		if x.Lo < y.Lo || x.Hi < y.Hi || e != api.OK || e2 != api.OK {
			t.Fatal(f, x, y, e, e2)
		}
	}
}
