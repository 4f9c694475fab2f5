package clay_test

import (
	"math"
	"math/rand"
	"slices"
	"testing"

	"potbank/api"
	"potbank/clay"
)

func TestBoundExamples(t *testing.T) {
	most := api.MaxGrams
	free := api.Store{Accounts: 3, Moves: []api.Move{move(1, 1, 0, 1, 0, most), move(1, 1, 1, 2, 0, most), move(1, 2, 2, 1, 5, most)}}
	full := api.Store{Accounts: 2, Moves: slices.Repeat([]api.Move{move(1, 1, 0, 1, most, most)}, 40)}
	around := api.Store{Accounts: 3, Moves: []api.Move{move(1, 1, 1, 2, 0, most), move(1, 1, 2, 1, 0, most)}}
	for _, x := range []struct {
		s    api.Store
		w    api.What
		want api.Range
	}{
		{storeS(), moved(0), span(100, 110)}, {storeS(), moved(1), span(75, 90)}, {storeS(), moved(2), span(40, 50)},
		{storeS(), kept(1, 1), span(100, 110)}, {storeS(), kept(1, 2), span(20, 25)}, {storeS(), kept(1, 3), span(20, 25)},
		{storeS(), kept(2, 1), span(0, 0)}, {storeS(), kept(2, 2), span(75, 90)}, {storeS(), kept(2, 3), span(30, 50)},
		{free, moved(0), span(5, most)}, {free, moved(1), span(5, most)}, {free, moved(2), span(5, most)},
		{free, kept(1, 1), span(0, most-5)}, {free, kept(2, 1), span(5, most)}, {free, kept(1, 2), span(5, most)}, {free, kept(2, 2), span(0, most-5)},
		// No count says how much a stock may be.
		{full, moved(39), span(most, most)}, {full, kept(1, 1), span(40*most, 40*most)},
		// What goes in a circle within a day need never have been in stock.
		{around, moved(0), span(0, most)}, {around, moved(1), span(0, most)}, {around, kept(1, 1), span(0, 0)},
		{api.Store{Accounts: 2, Counts: []api.Count{count(1, 9, 1, 0, 5)}}, kept(1, 9), span(0, 0)},
	} {
		if r, e := clay.Bound(x.s, x.w); r != x.want || e != api.OK {
			t.Error(x, r, e)
		}
	}
}

// wrongWhats lists what is no weight of S.
func wrongWhats() []api.What {
	l := []api.What{kept(0, 0), kept(0, 1), kept(1, 0), kept(1, 4), kept(3, 1), kept(-1, 1), kept(1, 100000), {Move: -2, Stock: stock(1, 1)}, moved(-2)}
	for _, n := range wrongNumbers(0, 2) {
		l = append(l, moved(n))
		if n != -1 {
			l = append(l, api.What{Move: n, Stock: stock(1, 1)})
		}
	}
	for i := range 3 {
		for _, x := range []api.Stock{stock(1, 1), stock(1, 0), stock(0, 1), stock(0, -1), stock(math.MinInt, 0)} {
			l = append(l, api.What{Move: i, Stock: x})
		}
	}
	return l
}

func TestEvenExamples(t *testing.T) {
	ring := []api.Move{move(1, 1, 1, 2, 7, 9), move(2, 1, 2, 1, 5, 8)}
	for _, x := range []struct {
		s    api.Store
		want bool
	}{
		{storeS(), true}, {unevenS(), false}, {api.Store{Accounts: 2}, true}, {storeS(count(6, 2, 2, 0, 75)), true}, {storeS(count(6, 2, 2, 0, 74)), false},
		{storeS(count(6, 2, 2, 90, 99)), true}, {storeS(count(6, 2, 2, 91, 99)), false},
		// Two counts of one stock leave nothing, or one number.
		{storeS(count(6, 2, 1, 25, 30)), true}, {storeS(count(6, 2, 1, 26, 30)), false}, {storeS(count(6, 2, 1, 0, 19)), false}, {storeS(count(6, 2, 1, 0, 20)), true},
		// Nobody has anything ahead of the first move.
		{storeS(count(6, 0, 1, 0, 1)), true}, {storeS(count(6, 0, 1, 1, 1)), false},
		// No stock is below 0.
		{api.Store{Accounts: 2, Moves: []api.Move{move(1, 1, 1, 0, 1, 2), move(1, 2, 0, 1, 1, 2)}}, false},
		{api.Store{Accounts: 2, Moves: []api.Move{move(1, 2, 1, 0, 1, 2), move(1, 1, 0, 1, 1, 2)}}, true},
		{api.Store{Accounts: 3, Moves: ring}, true}, {api.Store{Accounts: 3, Moves: ring, Counts: []api.Count{count(3, 4, 2, 1, 1)}}, false},
	} {
		if is, e := clay.Even(x.s); is != x.want || e != api.OK {
			t.Error(x, is, e)
		}
	}
}

// checkAttained tells whether a flow shows an end of a weight.
func checkAttained(t *testing.T, s api.Store, w api.What, high bool, want int) {
	t.Helper()
	f, e := clay.Attain(s, w, high)
	if e != api.OK || len(f.Weights) != len(s.Moves) || !agrees(s, f) || weightIn(s, f, w) != want {
		t.Fatal(s, w, high, want, f, e)
	}
	if e := clay.CheckFlow(s, f); e != api.OK {
		t.Fatal(s, w, high, f, e)
	}
}

// weightsIn returns the numbers that a weight is in some flows.
func weightsIn(s api.Store, flows []api.Flow, w api.What) map[int]bool {
	all := map[int]bool{}
	for _, f := range flows {
		all[weightIn(s, f, w)] = true
	}
	return all
}

func TestBoundOfAllFlows(t *testing.T) {
	var seen [2]int
	x := smalls(3)
	for range 1500 {
		s := x.store()
		flows := slices.Collect(flowsOf(s, 99))
		if is, e := clay.Even(s); is != (len(flows) > 0) || e != api.OK {
			t.Fatal(s, is, e)
		}
		if len(flows) == 0 {
			seen[0]++
			continue
		}
		seen[1]++
		for _, w := range whatsOf(s) {
			all := weightsIn(s, flows, w)
			r, e := clay.Bound(s, w)
			if e != api.OK || len(all) != r.Hi-r.Lo+1 || !all[r.Lo] || !all[r.Hi] {
				t.Fatal(s, w, r, all, e)
			}
			checkAttained(t, s, w, false, r.Lo)
			checkAttained(t, s, w, true, r.Hi)
		}
	}
	if slices.Min(seen[:]) < 200 {
		t.Error("the cases are lopsided", seen)
	}
}

// The ends lie around the weight of a flow that agrees, and other flows attain them; that they are no wider is what cuts show.
func TestBoundOfBigStores(t *testing.T) {
	r := rand.New(rand.NewSource(4))
	for range 60 {
		s, f := someBig(r)
		if is, e := clay.Even(s); !is || e != api.OK {
			t.Fatal(s, is, e)
		}
		for _, w := range whatsOf(s) {
			bound, e := clay.Bound(s, w)
			if n := weightIn(s, f, w); e != api.OK || n < bound.Lo || n > bound.Hi {
				t.Fatal(s, w, bound, n, e)
			}
			checkAttained(t, s, w, false, bound.Lo)
			checkAttained(t, s, w, true, bound.Hi)
		}
	}
}

// With one more count no range is wider.
func TestCountsNarrow(t *testing.T) {
	r := rand.New(rand.NewSource(5))
	var narrower, same int
	for range 100 {
		s, f := someBig(r)
		days := daysOf(s)
		if len(days) == 0 || len(s.Counts) == api.MaxCounts {
			continue
		}
		at := stock(1+r.Intn(s.Accounts-1), days[r.Intn(len(days))])
		n := heapsOf(s, f)[at]
		more, e := clay.Counted(s, count(77, at.Day, at.Account, n/2, n+r.Intn(9)))
		if n > api.MaxGrams-9 {
			continue
		}
		if is := isEven(more); !is || e != api.OK {
			t.Fatal(s, more, is, e)
		}
		for _, w := range whatsOf(s) {
			old, now := bound(s, w), bound(more, w)
			if now.Lo < old.Lo || now.Hi > old.Hi {
				t.Fatal(s, more, w, old, now)
			}
			if now == old {
				same++
			} else {
				narrower++
			}
		}
	}
	if min(narrower, same) < 100 {
		t.Error("the cases are lopsided", narrower, same)
	}
}

// A move that nobody weighed leaves a store even.
func TestUnweighedMoves(t *testing.T) {
	r := rand.New(rand.NewSource(6))
	many := 0
	for range 300 {
		s, _ := someBig(r)
		ends := r.Perm(s.Accounts)
		more, e := clay.With(s, move(77, r.Intn(8), ends[0], ends[1], 0, api.MaxGrams))
		if e != api.OK {
			continue
		}
		many++
		if is, e := clay.Even(more); !is || e != api.OK {
			t.Fatal(more, is, e)
		}
	}
	if many < 100 {
		t.Error(many)
	}
}

func TestMovesExamples(t *testing.T) {
	twice := storeS(count(6, 2, 1, 20, 25)) // what the source 4 tells
	late := storeS(count(6, 9, 2, 30, 45), count(7, 8, 1, 0, 99), count(8, 0, 1, 0, 99))
	one := api.Store{Accounts: 2, Moves: []api.Move{move(3, 1, 0, 1, 0, 9), move(3, 2, 1, 0, 2, 4), move(9, 2, 0, 1, 0, 0)}, Counts: []api.Count{count(3, 2, 1, 1, 1)}}
	unweighed := api.Store{Accounts: 2, Moves: []api.Move{move(3, 1, 0, 1, 0, api.MaxGrams)}}
	for _, x := range []struct {
		s    api.Store
		w    api.What
		want []int
	}{
		{storeS(), moved(1), []int{1, 4}}, {storeS(), moved(0), []int{1}}, {storeS(), moved(2), []int{3}},
		{storeS(), kept(2, 1), nil},
		{twice, moved(1), []int{1}},
		{storeS(), kept(2, 3), []int{1, 3, 4, 5}},
		// The day 9 is one that the source 6 alone tells of: without it the stock is that of the day 8.
		{late, kept(2, 9), []int{6}},
		// Without the source 7 the stock of the day 8 is that of the day 3, and without 8 that of the day 0 is nothing, as it is.
		{late, kept(1, 8), []int{4}},
		{late, kept(1, 0), nil},
		{one, moved(0), []int{3, 9}},
		{unweighed, moved(0), nil}, {unweighed, kept(1, 1), nil},
	} {
		if l, e := clay.Moves(x.s, x.w); !slices.Equal(l, x.want) || e != api.OK {
			t.Error(x, l, e)
		}
	}
}

// boundWithout is the range of a weight without a source, as the chapter tells it for days that are not there any more.
func boundWithout(t *testing.T, s api.Store, source int, w api.What) api.Range {
	t.Helper()
	rest, e := clay.Without(s, source)
	if e != api.OK {
		t.Fatal(s, source, e)
	}
	days := daysOf(rest)
	if w.Move == -1 {
		earlier := slices.DeleteFunc(slices.Clone(days), func(day int) bool { return day > w.Stock.Day })
		if len(earlier) == 0 {
			return span(0, 0)
		}
		w.Stock.Day = slices.Max(earlier)
	}
	r, e := clay.Bound(rest, w)
	if e != api.OK {
		t.Fatal(s, source, w, e)
	}
	return r
}

func checkMoves(t *testing.T, s api.Store, w api.What) (moves, others int) {
	t.Helper()
	var want []int
	r := bound(s, w)
	sources, _ := clay.Sources(s)
	for _, source := range sources {
		if boundWithout(t, s, source, w) != r {
			want = append(want, source)
		}
	}
	if l, e := clay.Moves(s, w); !slices.Equal(l, want) || e != api.OK {
		t.Fatal(s, w, l, want, e)
	}
	return len(want), len(sources) - len(want)
}

func TestMovesOfManyStores(t *testing.T) {
	x := smalls(7)
	x.days = 9
	var seen [2]int
	for range 500 {
		s := x.store()
		if !isEven(s) {
			continue
		}
		for _, w := range whatsOf(s) {
			moves, others := checkMoves(t, s, w)
			seen[0] += moves
			seen[1] += others
		}
	}
	if slices.Min(seen[:]) < 400 {
		t.Error("the cases are lopsided", seen)
	}
}

func TestMovesOfBigStores(t *testing.T) {
	r := rand.New(rand.NewSource(8))
	var seen [2]int
	for range 30 {
		s, _ := someBig(r)
		if whats := whatsOf(s); len(whats) > 0 {
			moves, others := checkMoves(t, s, whats[r.Intn(len(whats))])
			seen[0] += moves
			seen[1] += others
		}
	}
	if slices.Min(seen[:]) < 20 {
		t.Error("the cases are lopsided", seen)
	}
}
