package parts_test

import (
	"math"
	"math/rand"
	"slices"
	"testing"

	"potbank/parts"
)

func areSame(x, y [][]int) bool { return slices.EqualFunc(x, y, slices.Equal[[]int]) }

func TestIsSet(t *testing.T) {
	for _, list := range [][]int{nil, {}, {0}, {3}, {0, 3}, {1, 2}, {0, 1, 2, 3}} {
		if !parts.IsSet(list, 4) {
			t.Error(list)
		}
	}
	for _, list := range [][]int{{-1}, {4}, {0, 4}, {-1, 0}, {1, 0}, {1, 1}, {0, 2, 1}, {0, 1, 2, 3, 3}, {math.MinInt}, {math.MaxInt}, {0, math.MaxInt, math.MinInt}} {
		if parts.IsSet(list, 4) {
			t.Error(list)
		}
	}
	if !parts.IsSet(nil, 0) || parts.IsSet([]int{0}, 0) {
		t.Error("of nothing")
	}
}

func TestAre(t *testing.T) {
	for _, lists := range [][][]int{{{0, 1, 2}}, {{0}, {1, 2}}, {{0, 1}, {2}}, {{0, 2}, {1}}, {{0}, {1}, {2}}} {
		if !parts.Are(lists, 3) {
			t.Error(lists)
		}
	}
	for _, lists := range [][][]int{
		nil, {}, {{}}, {{0, 1}}, {{1, 2}}, {{0, 1, 2}, {}}, {{}, {0, 1, 2}}, {{0}, nil, {1, 2}}, {{1, 2}, {0}}, {{0, 2, 1}}, {{1, 0}, {2}},
		{{0, 1, 2}, {1}}, {{0, 1}, {1, 2}}, {{0, 1}, {1}}, {{0, 0, 2}, {1}}, {{0, 1, 3}}, {{0, 1, 2}, {3}}, {{-1, 0, 1, 2}}, {{-1}, {0, 1, 2}},
		{{math.MinInt}, {0, 1, 2}}, {{0, 1, 2, math.MaxInt}},
	} {
		if parts.Are(lists, 3) {
			t.Error(lists)
		}
	}
	if !parts.Are(nil, 0) || parts.Are([][]int{{}}, 0) || parts.Are([][]int{{0}}, 0) {
		t.Error("of nothing")
	}
}

// numberings returns all lists that give each of n things the number of its part, in order; parts are numbered as they begin.
func numberings(n int) [][]int {
	all := [][]int{nil}
	for range n {
		var longer [][]int
		for _, numbers := range all {
			for part := range len(numbers) + 1 {
				if part == 0 || slices.Contains(numbers, part-1) {
					longer = append(longer, append(slices.Clone(numbers), part))
				}
			}
		}
		all = longer
	}
	return all
}

func partsOf(numbers []int) [][]int {
	var lists [][]int
	for i, part := range numbers {
		if part == len(lists) {
			lists = append(lists, nil)
		}
		lists[part] = append(lists[part], i)
	}
	return lists
}

// all reports whether all parts do.
func all(lists [][]int, does func([]int) bool) bool {
	return !slices.ContainsFunc(lists, func(list []int) bool { return !does(list) })
}

// someWeights returns what tells whether things of random weights weigh at most a limit, and how many there are.
func someWeights(r *rand.Rand) (int, func([]int) bool) {
	n, limit := r.Intn(7), 8+r.Intn(20)
	weights := make([]int, n)
	for i := range weights {
		weights[i] = 1 + r.Intn(10)
	}
	return n, func(list []int) bool {
		sum := 0
		for _, i := range list {
			sum += weights[i]
		}
		return sum <= limit
	}
}

func TestFirstAndFewest(t *testing.T) {
	r := rand.New(rand.NewSource(1))
	var seen [7]int
	none := 0
	for range 500 {
		n, does := someWeights(r)
		var fewest [][]int
		found := false
		for most := range n + 2 {
			at := slices.IndexFunc(numberings(n), func(numbers []int) bool {
				lists := partsOf(numbers)
				return len(lists) <= most && all(lists, does)
			})
			lists, do := parts.First(n, most, does)
			if at < 0 && (len(lists) != 0 || do) {
				t.Fatal(n, most, lists)
			}
			if at >= 0 && (!areSame(lists, partsOf(numberings(n)[at])) || !do) {
				t.Fatal(n, most, lists)
			}
			if do && !found {
				fewest, found = lists, true
			}
		}
		lists, do := parts.Fewest(n, does)
		if do != found || !areSame(lists, fewest) || do && !parts.Are(lists, n) {
			t.Fatal(n, lists, fewest)
		}
		if do {
			seen[len(lists)]++
		} else {
			none++
		}
	}
	if none < 10 || slices.Min(seen[:5]) < 10 {
		t.Error("the cases are lopsided", none, seen)
	}
}

func TestAllListsAreParts(t *testing.T) {
	for n := range 6 {
		for _, numbers := range numberings(n) {
			if !parts.Are(partsOf(numbers), n) {
				t.Error(numbers)
			}
		}
	}
}

// Of things no two of which go together, and of things that all do, the search must not go through all ways.
func TestFewestOfMany(t *testing.T) {
	alone, do := parts.Fewest(30, func(list []int) bool { return len(list) < 2 })
	if len(alone) != 30 || !do {
		t.Error(alone, do)
	}
	together, do := parts.Fewest(30, func(list []int) bool { return true })
	if len(together) != 1 || !do {
		t.Error(together, do)
	}
}

func TestPartsShareNoMemory(t *testing.T) {
	lists, _ := parts.Fewest(5, func(list []int) bool { return len(list) < 3 })
	for i := range lists {
		lists[i] = append(lists[i], 9)
	}
	if !areSame(lists, [][]int{{0, 1, 9}, {2, 3, 9}, {4, 9}}) {
		t.Error(lists)
	}
}
