package saggar_test

import (
	"math"
	"math/rand"
	"slices"
	"testing"

	"potbank/api"
	"potbank/saggar"
)

func TestGroupsExamples(t *testing.T) {
	wide := item(1, 1, 5)
	for _, c := range []struct {
		l    []api.Item
		want [][]int
	}{
		{[]api.Item{wide, wide, item(1, 2, 4)}, [][]int{{0, 2}, {1}}},
		{nil, nil},
		{[]api.Item{wide}, [][]int{{0}}},
		{three(), [][]int{{0, 1, 2}}},
		{[]api.Item{item(1, 2, 4), wide, wide}, [][]int{{0, 1}, {2}}},
		{slices.Repeat([]api.Item{wide}, 5), [][]int{{0}, {1}, {2}, {3}, {4}}},
		{[]api.Item{item(1, 1, 0), item(2, 1, 5), wide, item(2, 1, 5)}, [][]int{{0, 1, 3}, {2}}},
		// The first two fit together, but then three groups are needed.
		{[]api.Item{item(2, 1, 5), item(2, 1, 5), wide, wide}, [][]int{{0, 2}, {1, 3}}},
	} {
		if g, e := saggar.Groups(pots(), low(), c.l); !areRows(g, c.want) || e != api.OK {
			t.Error(c.l, g, c.want, e)
		}
		if e := saggar.CheckGroups(pots(), low(), c.l, c.want); e != api.OK {
			t.Error(c.l, c.want, e)
		}
	}
	narrow, weak := low(), low()
	narrow.Deep, weak.Bears = 1, 499
	for _, j := range []job{
		{pots(), low(), []api.Item{wide, item(1, 3, 4), wide}},
		{pots(), narrow, []api.Item{item(1, 1, 0), item(2, 1, 5), wide}},
		{pots(), weak, []api.Item{item(2, 1, 5), wide}},
	} {
		if g, e := saggar.Groups(j.w, j.s, j.l); len(g) != 0 || e != api.ErrTight {
			t.Error(j, g, e)
		}
	}
}

func TestGroupsShareNoMemory(t *testing.T) {
	l := []api.Item{item(1, 1, 5), item(1, 1, 5), item(1, 2, 4)}
	g, _ := saggar.Groups(pots(), low(), l)
	for i := range g {
		g[i] = append(g[i], 9)
	}
	if !areRows(g, [][]int{{0, 2, 9}, {1, 9}}) {
		t.Error(g)
	}
}

func TestCheckGroupsExamples(t *testing.T) {
	l := []api.Item{item(1, 1, 5), item(1, 1, 5), item(1, 2, 4)}
	for _, g := range [][][]int{{{0, 2}, {1}}, {{0}, {1, 2}}, {{0}, {1}, {2}}} {
		if e := saggar.CheckGroups(pots(), low(), l, g); e != api.OK {
			t.Error(g, e)
		}
	}
	for _, g := range [][][]int{
		nil, {}, {{0, 1, 2}}, {{0, 1}, {2}}, {{0, 2}}, {{0}, {2}}, {{1}, {0, 2}}, {{2, 0}, {1}}, {{0, 2}, {1}, {}}, {{}, {0, 2}, {1}}, {nil, {0, 2}, {1}},
		{{0, 2}, {2}}, {{0, 2}, {1, 2}}, {{0, 2}, {1}, {1}}, {{0, 2}, {1}, {2}}, {{0, 0, 2}, {1}}, {{0, 2}, {1}, {3}}, {{-1, 0, 2}, {1}}, {{0, 2}, {1, 3}},
		{{math.MinInt}, {0, 2}, {1}}, {{0, 2}, {1, math.MaxInt}}, {{0}, {2}, {1}}, {{0}, {1}, {2}, {0}},
	} {
		if e := saggar.CheckGroups(pots(), low(), l, g); e != api.ErrGroups {
			t.Error(g, e)
		}
	}
	if e := saggar.CheckGroups(pots(), low(), nil, nil); e != api.OK {
		t.Error(e)
	}
	for _, g := range [][][]int{{{}}, {{0}}} {
		if e := saggar.CheckGroups(pots(), low(), nil, g); e != api.ErrGroups {
			t.Error(g, e)
		}
	}
	if e := saggar.CheckGroups(pots(), low(), []api.Item{item(1, 3, 4)}, [][]int{{0}}); e != api.ErrGroups {
		t.Error("an item that does not fit is in no group", e)
	}
}

// groupLists yields, in the order of R6, all lists that have the index of a group for each item, where groups are numbered as they begin.
func groupLists(many int, yield func(list []int)) {
	var extend func(list []int, groups int)
	extend = func(list []int, groups int) {
		if len(list) == many {
			yield(list)
			return
		}
		for g := range groups + 1 {
			extend(append(slices.Clone(list), g), max(groups, g+1))
		}
	}
	extend(nil, 0)
}

func groupsOf(list []int) [][]int {
	var groups [][]int
	for i, g := range list {
		if g == len(groups) {
			groups = append(groups, nil)
		}
		groups[g] = append(groups[g], i)
	}
	return groups
}

func TestGroupsOfAnyItems(t *testing.T) {
	r := rand.New(rand.NewSource(9))
	none := 0
	var counts [api.MaxItems + 1]int
	for range 600 {
		j := randomJob(r, r.Intn(api.MaxItems+1))
		var want [][]int
		found := false
		groupLists(len(j.l), func(list []int) {
			groups := groupsOf(list)
			are := true
			for _, items := range groups {
				_, e := saggar.Pack(j.w, j.s, some(j, items).l)
				are = are && e == api.OK
			}
			if e := saggar.CheckGroups(j.w, j.s, j.l, groups); are != (e == api.OK) || !are && e != api.ErrGroups {
				t.Fatal(j, groups, are, e)
			}
			if are && (!found || len(groups) < len(want)) {
				want, found = groups, true
			}
		})
		got, e := saggar.Groups(j.w, j.s, j.l)
		if found != (e == api.OK) || !found && e != api.ErrTight || !areRows(got, want) {
			t.Fatal(j, got, want, e)
		}
		if found {
			counts[len(want)]++
		} else {
			none++
		}
	}
	if none < 50 || slices.Min(counts[:4]) < 20 {
		t.Error("the cases are lopsided", none, counts)
	}
}
