package heat_test

import (
	"math/rand"
	"slices"
	"testing"

	"potbank/api"
	"potbank/heat"
)

func want(place, lo, hi int) api.Want { return api.Want{Place: place, Heat: span(lo, hi)} }

func TestVerdictExamples(t *testing.T) {
	for _, x := range []struct {
		f     api.Firing
		place int
		want  api.Range
		told  int
	}{
		{firingF(), 1, span(700, 1000), api.Yes}, {firingF(), 1, span(900, 950), api.Maybe}, {firingF(), 1, span(1001, 1100), api.No},
		{firingF(), 1, span(-3000, 3000), api.Yes}, {firingF(), 1, span(701, 1000), api.Maybe}, {firingF(), 1, span(700, 999), api.Maybe},
		{firingF(), 1, span(0, 699), api.No}, {firingF(), 1, span(0, 700), api.Maybe}, {firingF(), 1, span(1000, 3000), api.Maybe},
		{firing(kilnK()), 0, span(-200, 2900), api.Yes}, {firing(kilnK()), 0, span(-200, -200), api.Maybe}, {firing(kilnK()), 0, span(-3000, -201), api.No},
		// The heat that is asked for can be one that no mouth can be cold enough for.
		{firing(even(1, 1, span(0, 5))), 0, span(-3000, -6), api.No}, {firing(even(1, 1, span(0, 5))), 0, span(-3000, -5), api.Maybe},
	} {
		if n, e := heat.Verdict(x.f, x.place, x.want); n != x.told || e != api.OK {
			t.Error(x, n, e)
		}
	}
}

func TestTogetherExamples(t *testing.T) {
	all := slices.Repeat([]api.Want{want(1, 700, 1000)}, 24)
	for _, x := range []struct {
		l    []api.Want
		told int
	}{
		{[]api.Want{want(1, 700, 700), want(2, 900, 900)}, api.Maybe},
		{nil, api.Yes}, {all, api.Yes}, {[]api.Want{want(1, 700, 1000), want(0, 1000, 1100), want(2, 300, 900)}, api.Yes},
		{[]api.Want{want(1, 700, 1000), want(0, 1000, 1099)}, api.Maybe}, {[]api.Want{want(1, 700, 800), want(1, 801, 1000)}, api.No},
		{[]api.Want{want(1, 700, 800), want(1, 800, 1000)}, api.Maybe}, {[]api.Want{want(1, 700, 1000), want(1, 1001, 1100)}, api.No},
		// Each alone may be, but not both: what heats the place 1 heats one of the other ones.
		{[]api.Want{want(1, 1000, 1000), want(0, 1000, 1000), want(2, 300, 600)}, api.No},
		{[]api.Want{want(1, 1000, 1000), want(0, 1100, 1100), want(2, 300, 600)}, api.Maybe},
	} {
		if n, e := heat.Together(firingF(), x.l); n != x.told || e != api.OK {
			t.Error(x, n, e)
		}
	}
}

// answer goes through all fields: a history in which each place has a heat that is asked, and one in which one has another heat.
func answer(f api.Firing, l []api.Want) int {
	holds, fails := false, false
	for h := range histories(f, warmest) {
		all := true
		for p, heats := range h.heats {
			one := false
			for _, n := range heats {
				if isAsked(l, p, n) {
					one = true
				} else {
					fails = true
				}
			}
			all = all && one
		}
		holds = holds || all
	}
	switch {
	case !fails:
		return api.Yes
	case !holds:
		return api.No
	}
	return api.Maybe
}

func isAsked(l []api.Want, place, heat int) bool {
	for _, w := range l {
		if w.Place == place && (heat < w.Heat.Lo || heat > w.Heat.Hi) {
			return false
		}
	}
	return true
}

// someWants returns up to four wants, most of them wide.
func someWants(r *rand.Rand, f api.Firing) []api.Want {
	var l []api.Want
	for range r.Intn(5) {
		lo := r.Intn(14) - 6
		l = append(l, want(r.Intn(len(f.Kiln.Falls[0])), lo, lo+r.Intn(14)))
	}
	return l
}

func TestTogetherOfAllFields(t *testing.T) {
	r := rand.New(rand.NewSource(31))
	var seen [3]int
	for f := range smalls(32, 3000) {
		if is, _ := heat.Sound(f); !is {
			continue
		}
		l := someWants(r, f)
		told := answer(f, l)
		seen[told]++
		if n, e := heat.Together(f, l); n != told || e != api.OK {
			t.Fatal(f, l, n, told, e)
		}
		checkShown(t, f, l, told)
		yes := 0
		for _, w := range l {
			n, e := heat.Verdict(f, w.Place, w.Heat)
			if n != answer(f, []api.Want{w}) || e != api.OK {
				t.Fatal(f, w, n, e)
			}
			if n == api.Yes {
				yes++
			}
		}
		if (told == api.Yes) != (yes == len(l)) {
			t.Fatal("not as each alone", f, l, told)
		}
	}
	if slices.Min(seen[:]) < 300 {
		t.Error("the cases are lopsided", seen)
	}
}

// checkShown tells whether a field is shown in which the wants hold, if there is one.
func checkShown(t *testing.T, f api.Firing, l []api.Want, told int) {
	t.Helper()
	x, e := heat.Show(f, l)
	if told == api.No {
		if !isNoField(x) || e != api.ErrNone {
			t.Fatal(f, l, x, e)
		}
		return
	}
	heats, e2 := heat.Heats(f.Kiln, x)
	if e != api.OK || e2 != api.OK || heat.CheckField(f, x) != api.OK {
		t.Fatal(f, l, x, e, e2)
	}
	for p, n := range heats {
		if !isAsked(l, p, n) {
			t.Fatal(f, l, x, p, n)
		}
	}
}

// Of many mouths and places: a want for each place that a field has, and one narrower by a ring that contradicts it.
func TestTogetherOfBigFirings(t *testing.T) {
	r := rand.New(rand.NewSource(33))
	var seen [3]int
	for range 500 {
		f, x := someBig(r)
		heats, _ := heat.Heats(f.Kiln, x)
		var l []api.Want
		for p, n := range heats {
			l = append(l, want(p, max(-3000, n-r.Intn(9)), min(3000, n+r.Intn(9))))
		}
		if n, e := heat.Together(f, l); n == api.No || e != api.OK {
			t.Fatal(f, l, n, e)
		}
		checkShown(t, f, l, api.Maybe)
		p := r.Intn(len(l))
		lo := 1 + r.Intn(1990)
		l[p].Heat = span(lo, lo+r.Intn(10))
		seen[checkRings(t, f, l)]++
	}
	if seen[api.No] < 50 || seen[api.Maybe] < 5 {
		t.Error("the cases are lopsided", seen)
	}
}

// checkRings tells whether Together is No exactly if the firing with a ring for each want is not sound; wants that a ring cannot tell, and those that find no room, are left out.
func checkRings(t *testing.T, f api.Firing, l []api.Want) int {
	t.Helper()
	var wants []api.Want
	rings := f
	for _, w := range l {
		if with, e := heat.With(rings, ring(77, w.Place, w.Heat.Lo, w.Heat.Hi)); e == api.OK {
			rings, wants = with, append(wants, w)
		}
	}
	n, e := heat.Together(f, wants)
	is, e2 := heat.Sound(rings)
	if (n == api.No) == is || e != api.OK || e2 != api.OK {
		t.Fatal(f, wants, n, is, e, e2)
	}
	return n
}
