package bung_test

import (
	"math"
	"math/rand"
	"slices"
	"testing"

	"potbank/api"
	"potbank/bung"
)

// weak is D of the chapter's examples.
func weak() api.Saggar {
	s := a()
	s.Id, s.Bears = 4, api.Range{}
	return s
}

func TestMostExamples(t *testing.T) {
	heavy := greatest(9)
	heavy.Bears = api.Range{}
	for _, x := range []struct {
		l    []api.Saggar
		want []int
	}{
		{[]api.Saggar{a(), b(), c(), weak()}, []int{0, 1, 2}},
		{nil, nil},
		{[]api.Saggar{weak()}, []int{0}},
		{light(9), []int{0, 1, 2, 3, 4, 5, 6, 7, 8}},
		{[]api.Saggar{c(), weak()}, []int{0}},
		{[]api.Saggar{weak(), c()}, []int{0}},
		{[]api.Saggar{heavy, a(), weak(), b()}, []int{1, 2, 3}},
		{[]api.Saggar{heavy, weak(), b(), c()}, []int{1, 2}}, // as many as B and C
		{[]api.Saggar{greatest(1), greatest(2), greatest(3)}, []int{0, 1}},
	} {
		if l, e := bung.Most(x.l); !slices.Equal(l, x.want) || e != api.OK {
			t.Error(x, l, e)
		}
	}
	if l, e := bung.Most(light(10)); len(l) != 0 || e != api.ErrMany {
		t.Error(l, e)
	}
	if l, e := bung.Most(light(30)); len(l) != 0 || e != api.ErrMany {
		t.Error(l, e)
	}
}

// members returns the indices that a number has as its bits.
func members(set int) []int {
	var l []int
	for i := 0; set>>i > 0; i++ {
		if set>>i&1 == 1 {
			l = append(l, i)
		}
	}
	return l
}

func some(l []api.Saggar, indices []int) []api.Saggar {
	var chosen []api.Saggar
	for _, i := range indices {
		chosen = append(chosen, l[i])
	}
	return chosen
}

func TestMostOfAllLists(t *testing.T) {
	r := rand.New(rand.NewSource(10))
	var seen [6]int
	for range 600 {
		l := someSaggars(r, r.Intn(6), 25)
		var want []int
		for set := range 1 << len(l) {
			list := members(set)
			better := len(list) > len(want) || len(list) == len(want) && slices.Compare(list, want) < 0
			if better && standsInSomeOrder(nil, some(l, list)) {
				want = list
			}
		}
		got, e := bung.Most(l)
		if !slices.Equal(got, want) || e != api.OK {
			t.Fatal(l, got, want, e)
		}
		seen[len(want)]++
	}
	if slices.Min(seen[1:]) < 10 {
		t.Error("the cases are lopsided", seen)
	}
}

func areRows(x, y [][]int) bool { return slices.EqualFunc(x, y, slices.Equal[[]int]) }

// high returns a saggar that weighs nothing.
func high(id, n int) api.Saggar { return api.Saggar{Id: id, High: span(n, n)} }

func TestFewestExamples(t *testing.T) {
	abc := []api.Saggar{a(), b(), c()}
	for _, x := range []struct {
		l    []api.Saggar
		s    api.Spot
		want [][]int
	}{
		{abc, spot(400, 9), [][]int{{0, 2}, {1}}},
		{abc, spot(540, 4), [][]int{{0, 1, 2}}},
		{abc, spot(539, 4), [][]int{{0, 1}, {2}}},
		{abc, spot(540, 3), [][]int{{0, 1}, {2}}}, // the lean of A and B is 3
		{abc, spot(540, 2), [][]int{{0, 2}, {1}}}, // B and C stand with B at the bottom: no lean
		{abc, spot(319, 9), [][]int{{0}, {1}, {2}}},
		{abc, spot(320, 0), [][]int{{0, 2}, {1}}},
		{[]api.Saggar{c(), b()}, spot(320, 0), [][]int{{0, 1}}},
		{[]api.Saggar{weak(), c()}, spot(400000, 100000), [][]int{{0}, {1}}},
		{[]api.Saggar{c(), weak(), a()}, spot(400000, 100000), [][]int{{0, 2}, {1}}},
		{nil, spot(0, 0), nil},
		{[]api.Saggar{a()}, spot(210, 0), [][]int{{0}}},
	} {
		if l, e := bung.Fewest(clay(), x.l, x.s); !areRows(l, x.want) || e != api.OK {
			t.Error(x, l, e)
		}
	}
	for _, x := range []struct {
		l    []api.Saggar
		s    api.Spot
		want api.Errno
	}{
		{abc, spot(209, 9), api.ErrNone},
		{abc, spot(0, 0), api.ErrNone},
		{[]api.Saggar{c(), a()}, spot(100, 9), api.ErrNone},
		{light(10), spot(400, 9), api.ErrMany},
		{light(10), spot(0, 0), api.ErrMany},
	} {
		if l, e := bung.Fewest(clay(), x.l, x.s); len(l) != 0 || e != x.want {
			t.Error(x, l, e)
		}
	}
}

// The first two would go together, but then three bungs are needed.
func TestFewestIsNotTheFirstThatGoes(t *testing.T) {
	l := []api.Saggar{high(1, 40), high(2, 30), high(3, 60), high(4, 70)}
	if g, e := bung.Fewest(api.Range{}, l, spot(100, 0)); !areRows(g, [][]int{{0, 2}, {1, 3}}) || e != api.OK {
		t.Error(g, e)
	}
	if g, e := bung.Fewest(span(0, 1), l, spot(100, 0)); !areRows(g, [][]int{{0, 1}, {2}, {3}}) || e != api.OK {
		t.Error("wads count", g, e)
	}
}

// Of nine saggars of which no three go together, all ways but the last fail: the search must not go through each.
func TestFewestOfNine(t *testing.T) {
	var l []api.Saggar
	for i := range 9 {
		l = append(l, high(i+1, 34))
	}
	if g, e := bung.Fewest(api.Range{}, l, spot(100, 0)); !areRows(g, [][]int{{0, 1}, {2, 3}, {4, 5}, {6, 7}, {8}}) || e != api.OK {
		t.Error(g, e)
	}
	if g, e := bung.Fewest(api.Range{}, l, spot(34, 0)); len(g) != 9 || e != api.OK {
		t.Error(g, e)
	}
	if g, e := bung.Fewest(api.Range{}, l, spot(306, 0)); !areRows(g, [][]int{{0, 1, 2, 3, 4, 5, 6, 7, 8}}) || e != api.OK {
		t.Error(g, e)
	}
}

// numberings returns all lists of numbers that name bungs of n saggars, in order.
func numberings(n int) [][]int {
	all := [][]int{nil}
	for range n {
		var longer [][]int
		for _, l := range all {
			for bung := range len(l) + 1 {
				if bung == 0 || slices.Contains(l, bung-1) {
					longer = append(longer, append(slices.Clone(l), bung))
				}
			}
		}
		all = longer
	}
	return all
}

func bungsOf(numbers []int) [][]int {
	var bungs [][]int
	for i, n := range numbers {
		if n == len(bungs) {
			bungs = append(bungs, nil)
		}
		bungs[n] = append(bungs[n], i)
	}
	return bungs
}

// do reports whether each bung, set by the rule, surely fits.
func do(wad api.Range, l []api.Saggar, s api.Spot, bungs [][]int) bool {
	for _, list := range bungs {
		order, _ := bung.Rule(some(l, list))
		x, _ := bung.Set(wad, some(l, list), order)
		if n, _ := bung.Fits(x, s); n != api.Yes {
			return false
		}
	}
	return true
}

func TestFewestOfAllBungs(t *testing.T) {
	r := rand.New(rand.NewSource(11))
	var seen [6]int
	for range 400 {
		l, wad := someSaggars(r, r.Intn(6), 15), someRange(r, 0, 3)
		s := spot(11+r.Intn(30), r.Intn(6))
		var want [][]int
		for _, numbers := range numberings(len(l)) {
			bungs := bungsOf(numbers)
			does := do(wad, l, s, bungs)
			if does && (want == nil || len(bungs) < len(want)) {
				want = bungs
			}
			e := bung.CheckBungs(wad, l, s, bungs)
			if does != (e == api.OK) || !does && e != api.ErrNone {
				t.Fatal(wad, l, s, bungs, e)
			}
		}
		wanted := api.OK
		if want == nil && len(l) > 0 {
			wanted = api.ErrNone
		}
		g, e := bung.Fewest(wad, l, s)
		if !areRows(g, want) || e != wanted {
			t.Fatal(wad, l, s, g, want, e)
		}
		seen[len(want)]++
	}
	if slices.Min(seen[:]) < 10 {
		t.Error("the cases are lopsided", seen)
	}
}

func TestFewestShareNoMemory(t *testing.T) {
	g, _ := bung.Fewest(clay(), []api.Saggar{a(), b(), c()}, spot(400, 9))
	for i := range g {
		g[i] = append(g[i], 9)
	}
	if !areRows(g, [][]int{{0, 2, 9}, {1, 9}}) {
		t.Error(g)
	}
}

func TestCheckBungsExamples(t *testing.T) {
	abc := []api.Saggar{a(), b(), c()}
	for _, x := range []struct {
		bungs [][]int
		want  api.Errno
	}{
		{[][]int{{0, 2}, {1}}, api.OK},
		{[][]int{{0}, {1, 2}}, api.OK},
		{[][]int{{0}, {1}, {2}}, api.OK},
		{[][]int{{0, 1}, {2}}, api.ErrNone},
		{[][]int{{0, 1, 2}}, api.ErrNone},
		{nil, api.ErrParts},
		{[][]int{{}}, api.ErrParts},
		{[][]int{{0, 2}}, api.ErrParts},
		{[][]int{{0, 2}, {1}, {}}, api.ErrParts},
		{[][]int{{}, {0, 2}, {1}}, api.ErrParts},
		{[][]int{{1}, {0, 2}}, api.ErrParts},
		{[][]int{{2, 0}, {1}}, api.ErrParts},
		{[][]int{{0}, {2, 1}}, api.ErrParts},
		{[][]int{{0, 2}, {1, 2}}, api.ErrParts},
		{[][]int{{0, 1, 2}, {0}}, api.ErrParts},
		{[][]int{{0, 1, 2}, {1}}, api.ErrParts},
		{[][]int{{0, 0, 2}, {1}}, api.ErrParts},
		{[][]int{{0, 2}, {0}, {1}}, api.ErrParts},
		{[][]int{{0, 2}, {1}, {1}}, api.ErrParts},
		{[][]int{{0, 2}, {1, 3}}, api.ErrParts},
		{[][]int{{0, 2}, {1}, {3}}, api.ErrParts},
		{[][]int{{-1, 0, 2}, {1}}, api.ErrParts},
		{[][]int{{-1}, {0, 2}, {1}}, api.ErrParts},
		{[][]int{{0, 1}, {3}}, api.ErrParts},
		{[][]int{{-1, 0, 1}}, api.ErrParts},
		{[][]int{{math.MinInt, 0}, {1, math.MaxInt}}, api.ErrParts},
	} {
		if e := bung.CheckBungs(clay(), abc, spot(400, 9), x.bungs); e != x.want {
			t.Error(x, e)
		}
	}
	for _, x := range []struct {
		bungs [][]int
		want  api.Errno
	}{{nil, api.OK}, {[][]int{}, api.OK}, {[][]int{{}}, api.ErrParts}, {[][]int{{0}}, api.ErrParts}} {
		if e := bung.CheckBungs(clay(), nil, spot(0, 0), x.bungs); e != x.want {
			t.Error(x, e)
		}
	}
}

// Bungs that no search would find are checked all the same.
func TestCheckBungsOfMany(t *testing.T) {
	var all []int
	for i := range 30 {
		all = append(all, i)
	}
	l := light(30)
	if e := bung.CheckBungs(api.Range{}, l, spot(30, 0), [][]int{all}); e != api.OK {
		t.Error(e)
	}
	if e := bung.CheckBungs(api.Range{}, l, spot(29, 0), [][]int{all}); e != api.ErrNone {
		t.Error(e)
	}
	if e := bung.CheckBungs(api.Range{}, l, spot(29, 0), [][]int{all[:29], all[29:]}); e != api.OK {
		t.Error(e)
	}
}

// Whatever its saggars and wads measure, a bung that surely fits is no higher than the crown.
func TestBungsAreNoHigherThanTheCrown(t *testing.T) {
	r := rand.New(rand.NewSource(12))
	many := 0
	for range 300 {
		l, wad := someSaggars(r, 1+r.Intn(9), 15), someRange(r, 0, 3)
		s := spot(11+r.Intn(30), r.Intn(6))
		g, e := bung.Fewest(wad, l, s)
		if e == api.ErrNone {
			continue
		}
		if e != api.OK || bung.CheckBungs(wad, l, s, g) != api.OK {
			t.Fatal(wad, l, s, g, e)
		}
		for _, list := range g {
			high := 0
			for at, i := range list {
				high += l[i].High.Lo + r.Intn(l[i].High.Hi-l[i].High.Lo+1)
				if at > 0 {
					high += wad.Lo + r.Intn(wad.Hi-wad.Lo+1)
				}
			}
			if high > s.Crown {
				t.Fatal(wad, l, s, list, high)
			}
			many++
		}
	}
	if many < 100 {
		t.Error("the cases are lopsided", many)
	}
}
