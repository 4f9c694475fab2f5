package clash_test

import (
	"math"
	"math/rand"
	"slices"
	"testing"

	"potbank/clash"
	"potbank/probe"
)

// areAny returns what tells that sources contradict each other if all of some set are among them.
func areAny(sets ...[]int) func(by []int) bool {
	return func(by []int) bool {
		return slices.ContainsFunc(sets, func(set []int) bool { return isIn(set, by) })
	}
}

func isIn(list, other []int) bool {
	return !slices.ContainsFunc(list, func(i int) bool { return !slices.Contains(other, i) })
}

func TestOfLeavesOutTheLastFirst(t *testing.T) {
	for _, x := range []struct {
		sources []int
		sets    [][]int
		want    []int
	}{
		{[]int{1, 4, 9}, [][]int{{1, 4}}, []int{1, 4}},
		{[]int{1, 4, 9}, [][]int{{4}, {9}}, []int{4}},
		{[]int{1, 4, 9}, [][]int{{1, 9}, {4, 9}}, []int{1, 9}},
		{[]int{1, 4, 9}, [][]int{{1, 4, 9}}, []int{1, 4, 9}},
		{[]int{1, 4, 9}, [][]int{{9}, {1, 4}}, []int{1, 4}},
		{[]int{7}, [][]int{{7}}, []int{7}},
		{[]int{1, 4, 9}, [][]int{{}}, nil},
		{nil, [][]int{{}}, nil},
	} {
		if by, do := clash.Of(x.sources, areAny(x.sets...)); !slices.Equal(by, x.want) || !do {
			t.Error(x, by, do)
		}
	}
	for _, sources := range [][]int{nil, {1}, {1, 4}} {
		if by, do := clash.Of(sources, areAny([]int{1, 4, 9}, []int{5})); len(by) != 0 || do {
			t.Error(sources, by, do)
		}
	}
}

func TestIsExamples(t *testing.T) {
	sources := []int{-3, 1, 4, 9}
	contradict := areAny([]int{1, 4}, []int{4, 9}, []int{-3})
	for _, by := range [][]int{{1, 4}, {4, 9}, {-3}} {
		if !clash.Is(by, sources, contradict) {
			t.Error(by)
		}
	}
	for _, by := range [][]int{
		nil, {}, {1}, {4}, {1, 9}, {4, 1}, {1, 1, 4}, {1, 4, 4}, {1, 4, 9}, {-3, 1}, {-3, -3}, {-3, 1, 4, 9}, {1, 4, 5}, {1, 2, 4}, {0, 1, 4},
		{math.MinInt, 1, 4}, {1, 4, math.MaxInt}, {math.MinInt},
	} {
		if clash.Is(by, sources, contradict) {
			t.Error(by)
		}
	}
	if clash.Is([]int{1, 4}, []int{1, 9}, contradict) || clash.Is([]int{9, 4}, []int{9, 4}, contradict) {
		t.Error("what is no list of these")
	}
	if !clash.Is(nil, nil, areAny(nil)) {
		t.Error("without any source there is a contradiction already")
	}
}

func TestAnySets(t *testing.T) {
	r := rand.New(rand.NewSource(1))
	sources := []int{2, 3, 5, 8, 13}
	lists := probe.Choices(sources)
	for range 500 {
		var sets [][]int
		for range 1 + r.Intn(3) {
			sets = append(sets, lists[1+r.Intn(len(lists)-1)])
		}
		contradict := areAny(sets...)
		for _, by := range lists {
			// A contradiction from which nothing can be left out is one of the sets, with no other within it.
			is := contradict(by) && !slices.ContainsFunc(sets, func(set []int) bool { return isIn(set, by) && len(set) < len(by) })
			if clash.Is(by, sources, contradict) != is {
				t.Fatal(sets, by)
			}
		}
		// The one is left whose greatest source is least, then whose next one is, and so on.
		first := slices.MinFunc(slices.DeleteFunc(slices.Clone(lists), func(by []int) bool { return !contradict(by) }), func(x, y []int) int {
			x, y = slices.Clone(x), slices.Clone(y)
			slices.Reverse(x)
			slices.Reverse(y)
			return slices.Compare(x, y)
		})
		if by, do := clash.Of(sources, contradict); !slices.Equal(by, first) || !do {
			t.Fatal(sets, by, first)
		}
	}
}

func TestMemory(t *testing.T) {
	sources := []int{1, 4, 9}
	all := areAny([]int{1, 4, 9})
	by, _ := clash.Of(sources, all)
	by[0] = 7
	if !slices.Equal(sources, []int{1, 4, 9}) {
		t.Error("what is left shares memory with the sources")
	}
	clash.Of(sources, areAny([]int{9}))
	clash.Is(sources, sources, all)
	if !slices.Equal(sources, []int{1, 4, 9}) {
		t.Error("the sources were changed", sources)
	}
}
