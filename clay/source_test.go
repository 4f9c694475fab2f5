package clay_test

import (
	"math"
	"math/rand"
	"slices"
	"testing"

	"potbank/api"
	"potbank/clay"
	"potbank/probe"
)

func TestSources(t *testing.T) {
	mixed := api.Store{
		Accounts: 2,
		Moves:    []api.Move{move(99999, 1, 0, 1, 1, 2), move(7, 1, 0, 1, 1, 2), move(7, 2, 0, 1, 1, 2)},
		Counts:   []api.Count{count(8, 1, 1, 1, 2), count(1, 1, 1, 1, 2), count(7, 1, 1, 1, 2), count(8, 2, 1, 1, 2)},
	}
	for _, x := range []struct {
		s    api.Store
		want []int
	}{{storeS(), []int{1, 2, 3, 4, 5}}, {api.Store{Accounts: 2}, nil}, {mixed, []int{1, 7, 8, 99999}}, {long(40, 20), []int{1}}} {
		if l, e := clay.Sources(x.s); !slices.Equal(l, x.want) || e != api.OK {
			t.Error(x, l, e)
		}
	}
}

func TestWithout(t *testing.T) {
	free := storeS()
	free.Moves[1].Weight = span(0, 1000000000)
	counted := storeS()
	counted.Counts = counted.Counts[1:]
	shared := storeS(count(2, 9, 1, 1, 2), count(5, 9, 2, 1, 2), count(2, 1, 2, 1, 2))
	rest := storeS(count(5, 9, 2, 1, 2))
	rest.Moves[1].Weight = span(0, 1000000000)
	for _, x := range []struct {
		s      api.Store
		source int
		want   api.Store
	}{
		{storeS(), 2, free}, {storeS(), 4, counted}, {shared, 2, rest},
		{long(40, 20), 1, api.Store{Accounts: 3, Moves: slices.Repeat([]api.Move{move(1, 1, 0, 1, 0, 1000000000)}, 40)}},
	} {
		s, e := clay.Without(x.s, x.source)
		if !isSame(s, x.want) || e != api.OK {
			t.Error(x, s, e)
		}
	}
	for _, source := range append(wrongNumbers(1, 5), 0, -1, 6, 99999) {
		if s, e := clay.Without(storeS(), source); !isNone(s) || e != api.ErrNone {
			t.Error(source, s, e)
		}
	}
	if s, e := clay.Without(api.Store{Accounts: 2}, 1); !isNone(s) || e != api.ErrNone {
		t.Error(s, e)
	}
}

func TestWithoutSharesNoMemory(t *testing.T) {
	s := storeS()
	for _, source := range []int{1, 4} {
		rest, _ := clay.Without(s, source)
		for i := range rest.Moves {
			rest.Moves[i].Source = 77
		}
		for i := range rest.Counts {
			rest.Counts[i].Source = 77
		}
		if !isSame(s, storeS()) {
			t.Fatal(source, s)
		}
	}
}

func TestConflictExamples(t *testing.T) {
	early := storeS(count(6, 0, 1, 1, 1))
	for _, x := range []struct {
		s    api.Store
		want []int
		e    api.Errno
	}{
		{unevenS(), []int{1, 4, 6}, api.OK}, {storeS(), nil, api.ErrNone}, {api.Store{Accounts: 2}, nil, api.ErrNone},
		{storeS(count(6, 2, 1, 26, 30)), []int{4, 6}, api.OK},
		// A source that contradicts itself, and one that nothing can have been ahead of.
		{storeS(count(4, 2, 1, 26, 30)), []int{4}, api.OK}, {early, []int{6}, api.OK},
		// The greatest ones fall silent first.
		{storeS(count(9, 2, 1, 0, 5), count(8, 2, 1, 0, 5), count(7, 2, 1, 20, 25)), []int{4, 8}, api.OK},
		// A move weighed too little, or too much, for what is counted.
		{api.Store{Accounts: 2, Moves: []api.Move{move(5, 1, 0, 1, 3, 4)}, Counts: []api.Count{count(2, 1, 1, 5, 9)}}, []int{2, 5}, api.OK},
		{api.Store{Accounts: 2, Moves: []api.Move{move(5, 1, 0, 1, 3, 4), move(3, 1, 1, 0, 5, 5)}}, []int{3, 5}, api.OK},
		// Nobody moved anything here.
		{api.Store{Accounts: 2, Counts: []api.Count{count(2, 1, 1, 5, 9), count(1, 1, 1, 0, 9)}}, []int{2}, api.OK},
		// However much a silent move weighed, it was at most 10^9.
		{api.Store{Accounts: 2, Moves: []api.Move{move(5, 1, 0, 1, 0, 0), move(1, 1, 1, 0, 1, 1)}, Counts: []api.Count{count(2, 1, 1, api.MaxGrams, api.MaxGrams)}}, []int{1, 2}, api.OK},
	} {
		if l, e := clay.Conflict(x.s); !slices.Equal(l, x.want) || e != x.e {
			t.Error(x, l, e)
		}
	}
}

// alone returns a store in which all sources but some are silent, by Without.
func alone(s api.Store, by []int) api.Store {
	sources, _ := clay.Sources(s)
	for _, source := range sources {
		if rest, e := clay.Without(s, source); e == api.OK && !slices.Contains(by, source) {
			s = rest
		}
	}
	return s
}

// contradictions tells for each choice of sources, by all flows, whether it contradicts itself while the others are silent. No silent move need weigh more than two others and a count together, of at most 4 each.
func contradictions(s api.Store, sources []int) (all [][]int, do func(by []int) bool) {
	all = slices.DeleteFunc(probe.Choices(sources), func(by []int) bool { return isEvenOf(alone(s, by), 12) })
	return all, func(by []int) bool {
		return slices.ContainsFunc(all, func(other []int) bool { return slices.Equal(by, other) })
	}
}

func without(by []int, i int) []int { return slices.Delete(slices.Clone(by), i, i+1) }

func TestConflictOfManyStores(t *testing.T) {
	x := someStores{r: rand.New(rand.NewSource(20)), accounts: 3, days: 2, moves: 3, counts: 3, sources: 9, heavy: 3, wide: 1}
	seen := map[int]int{}
	for range 600 {
		s := x.store()
		sources, _ := clay.Sources(s)
		_, do := contradictions(s, sources)
		want := sources
		for i := len(want) - 1; i >= 0; i-- {
			if rest := without(want, i); do(rest) {
				want = rest
			}
		}
		l, e := clay.Conflict(s)
		switch {
		case !do(sources):
			want = nil
			if e != api.ErrNone {
				t.Fatal(s, l, e)
			}
		case e != api.OK || clay.CheckConflict(s, l) != api.OK:
			t.Fatal(s, l, e)
		}
		if !slices.Equal(l, want) {
			t.Fatal(s, l, want)
		}
		seen[len(l)]++
		for _, by := range probe.Choices(sources) {
			want := api.OK
			for i := range by {
				if do(without(by, i)) {
					want = api.ErrSet
				}
			}
			if !do(by) {
				want = api.ErrSet
			}
			if e := clay.CheckConflict(s, by); e != want {
				t.Fatal(s, by, e)
			}
		}
	}
	if min(seen[0], seen[1], seen[2]) < 60 || seen[3] < 10 {
		t.Error("the cases are lopsided", seen)
	}
}

func TestCheckConflictExamples(t *testing.T) {
	s := storeS(count(9, 2, 1, 0, 5), count(8, 2, 1, 0, 5), count(7, 2, 1, 20, 25))
	for _, x := range []struct {
		by   []int
		want api.Errno
	}{
		{[]int{4, 8}, api.OK}, {[]int{4, 9}, api.OK}, {[]int{7, 8}, api.OK}, {[]int{7, 9}, api.OK},
		{nil, api.ErrSet}, {[]int{4}, api.ErrSet}, {[]int{4, 7}, api.ErrSet}, {[]int{8, 9}, api.ErrSet}, {[]int{4, 8, 9}, api.ErrSet}, {[]int{4, 7, 8, 9}, api.ErrSet},
		{[]int{8, 4}, api.ErrSet}, {[]int{4, 4, 8}, api.ErrSet}, {[]int{4, 8, 8}, api.ErrSet}, {[]int{4, 6, 8}, api.ErrSet}, {[]int{0, 4, 8}, api.ErrSet},
		{[]int{1, 4, 8}, api.ErrSet}, {[]int{4, 8, 10}, api.ErrSet}, {[]int{math.MinInt, 4, 8}, api.ErrSet}, {[]int{4, 8, math.MaxInt}, api.ErrSet},
	} {
		if e := clay.CheckConflict(s, x.by); e != x.want {
			t.Error(x, e)
		}
	}
	for _, by := range probe.Choices([]int{1, 2, 3, 4, 5}) {
		if e := clay.CheckConflict(storeS(), by); e != api.ErrSet {
			t.Error(by, e)
		}
	}
	if e := clay.CheckConflict(unevenS(), []int{1, 4, 6}); e != api.OK {
		t.Error(e)
	}
	if e := clay.CheckConflict(api.Store{Accounts: 2}, nil); e != api.ErrSet {
		t.Error(e)
	}
}

// Some counts of a big store are made wrong.
func TestConflictOfBigStores(t *testing.T) {
	r := rand.New(rand.NewSource(21))
	seen := map[int]int{}
	for range 150 {
		s, _ := someBig(r)
		for i, c := range s.Counts {
			if r.Intn(5) == 0 {
				n := r.Intn(min(api.MaxGrams, c.Weight.Hi*2) + 1)
				s.Counts[i].Weight = span(n, n)
			}
		}
		l, e := clay.Conflict(s)
		if isEven(s) {
			if len(l) != 0 || e != api.ErrNone {
				t.Fatal(s, l, e)
			}
			seen[0]++
			continue
		}
		if e2 := clay.CheckConflict(s, l); e != api.OK || e2 != api.OK {
			t.Fatal(s, l, e, e2)
		}
		if isEven(alone(s, l)) {
			t.Fatal(s, l)
		}
		for i := range l {
			if !isEven(alone(s, without(l, i))) {
				t.Fatal(s, l, i)
			}
		}
		seen[len(l)]++
	}
	if seen[0] < 10 || seen[2] < 10 || seen[3] < 5 || len(seen) < 6 {
		t.Error("the cases are lopsided", seen)
	}
}
