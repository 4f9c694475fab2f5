package clay_test

import (
	"math"
	"math/rand"
	"slices"
	"testing"

	"potbank/api"
	"potbank/clay"
	"potbank/probe"
)

func TestCheckCutExamples(t *testing.T) {
	s := storeS()
	both, all := cut(stock(1, 1), stock(1, 2)), cut(stocksOf(s)...)
	for _, x := range []struct {
		w    api.What
		high bool
		n    int // shown; n less (or more) is not
		c    api.Cut
	}{
		{moved(1), true, 90, both}, {moved(1), true, 90, cut(stock(1, 2), stock(1, 1))}, {moved(1), false, 75, both},
		{moved(0), false, 20, both}, {moved(0), true, 225, both}, {kept(1, 2), true, 110, both}, {kept(1, 2), false, -100, both},
		{moved(0), false, 70, all}, {moved(2), true, 80, all}, {kept(1, 3), true, 40, all}, {kept(1, 3), false, -10, all},
		// Without stocks a cut shows what is told of the weight itself.
		{moved(1), true, 200, cut()}, {moved(1), false, 0, cut()}, {kept(1, 2), true, 25, cut()}, {kept(1, 2), false, 20, cut()}, {kept(1, 1), false, 0, cut()},
	} {
		less := -1
		if !x.high {
			less = 1
		}
		for n, want := range map[int]api.Errno{x.n: api.OK, x.n - less: api.OK, x.n - 1000000*less: api.OK, x.n + less: api.ErrTold, x.n + 1000000*less: api.ErrTold} {
			if e := clay.CheckCut(s, x.w, x.high, n, x.c); e != want {
				t.Error(x, n, e)
			}
		}
	}
	// Any number is said by these, but none is shown.
	for _, x := range []struct {
		w    api.What
		high bool
		c    api.Cut
	}{
		// It neither goes in nor out.
		{moved(2), true, both}, {moved(2), false, both}, {kept(1, 1), true, both}, {kept(1, 1), false, both}, {moved(0), false, cut(stock(2, 3))}, {moved(1), true, all},
		// What is kept of the account 1 on the day 3 has no greatest number.
		{moved(0), true, all}, {moved(2), false, all}, {kept(2, 3), false, all}, {kept(1, 3), true, cut()}, {kept(1, 1), true, cut()},
	} {
		n := math.MinInt
		if x.high {
			n = math.MaxInt
		}
		if e := clay.CheckCut(s, x.w, x.high, n, x.c); e != api.ErrTold {
			t.Error(x, e)
		}
	}
}

// wrongCuts lists cuts that are not valid for S.
func wrongCuts() []api.Cut {
	l := []api.Cut{cut(stock(1, 1), stock(1, 1)), cut(stock(2, 3), stock(1, 1), stock(2, 3)), {Stocks: slices.Repeat(stocksOf(storeS()), 2)}}
	for _, x := range []api.Stock{
		stock(0, 0), stock(0, 1), stock(3, 1), stock(-1, 1), stock(1, 0), stock(1, 4), stock(1, 100000), stock(math.MinInt, 1), stock(math.MaxInt, 1),
		stock(1, math.MinInt), stock(1, math.MaxInt),
	} {
		l = append(l, cut(x), cut(x, stock(1, 1)), cut(stock(1, 1), stock(2, 2), x))
	}
	return l
}

// checkCut holds CheckCut of a weight, the arc i of a store, against the chapter's definition.
func checkCut(t *testing.T, s api.Store, limbs []limb, i int, c api.Cut) {
	t.Helper()
	w := whatsOf(s)[i]
	for _, high := range []bool{false, true} {
		n, is := shown(limbs, c, i, high)
		for _, much := range []int{n, n - 1, n + 1, math.MinInt, math.MaxInt} {
			want := api.ErrTold
			if is && (high && n <= much || !high && n >= much) {
				want = api.OK
			}
			if e := clay.CheckCut(s, w, high, much, c); e != want {
				t.Fatal(s, w, high, much, c, n, is, e)
			}
		}
	}
}

// checkTrue tells whether a cut shows nothing of a weight that a flow which agrees belies.
func checkTrue(t *testing.T, s api.Store, w api.What, bound api.Range, c api.Cut) {
	t.Helper()
	if e := clay.CheckCut(s, w, true, bound.Hi-1, c); e != api.ErrTold {
		t.Fatal(s, w, bound, c, e)
	}
	if e := clay.CheckCut(s, w, false, bound.Lo+1, c); e != api.ErrTold {
		t.Fatal(s, w, bound, c, e)
	}
}

func TestAllCuts(t *testing.T) {
	var seen [2]int
	x := smalls(10)
	x.accounts, x.days, x.moves = 3, 3, 4
	for range 150 {
		s := x.store()
		limbs, is := limbsOf(s), isEven(s)
		for _, stocks := range probe.Choices(stocksOf(s)) {
			c := cut(stocks...)
			x.r.Shuffle(len(c.Stocks), func(i, j int) { c.Stocks[i], c.Stocks[j] = c.Stocks[j], c.Stocks[i] })
			for i, w := range whatsOf(s) {
				checkCut(t, s, limbs, i, c)
				if is {
					checkTrue(t, s, w, bound(s, w), c)
				}
			}
			want := api.ErrTold
			if isShownUneven(s, c) {
				want = api.OK
			}
			if e := clay.CheckUneven(s, c); e != want || e == api.OK && is {
				t.Fatal(s, c, is, e)
			}
		}
		if is {
			seen[1]++
		} else {
			seen[0]++
		}
	}
	if slices.Min(seen[:]) < 30 {
		t.Error("the cases are lopsided", seen)
	}
}

// checkProved tells whether cuts show both ends of a weight, the arc i of an even store.
func checkProved(t *testing.T, s api.Store, limbs []limb, i int) {
	t.Helper()
	w := whatsOf(s)[i]
	r := bound(s, w)
	for high, want := range map[bool]int{false: r.Lo, true: r.Hi} {
		c, e := clay.Prove(s, w, high)
		if n, is := shown(limbs, c, i, high); e != api.OK || !is || n != want {
			t.Fatal(s, w, high, want, c, n, is, e)
		}
		if e := clay.CheckCut(s, w, high, want, c); e != api.OK {
			t.Fatal(s, w, high, want, c, e)
		}
	}
}

func TestProveExamples(t *testing.T) {
	s := storeS()
	for i := range whatsOf(s) {
		checkProved(t, s, limbsOf(s), i)
	}
	if c, e := clay.Prove(s, moved(1), true); !slices.Equal(c.Stocks, []api.Stock{stock(1, 1), stock(1, 2)}) || e != api.OK {
		t.Error(c, e)
	}
}

func TestProveOfManyStores(t *testing.T) {
	x := smalls(11)
	many := 0
	for range 1500 {
		s := x.store()
		if !isEven(s) {
			continue
		}
		many++
		for i := range whatsOf(s) {
			checkProved(t, s, limbsOf(s), i)
		}
	}
	if many < 200 {
		t.Error(many)
	}
}

func TestProveOfBigStores(t *testing.T) {
	r := rand.New(rand.NewSource(12))
	for range 60 {
		s, _ := someBig(r)
		limbs := limbsOf(s)
		for i := range whatsOf(s) {
			checkProved(t, s, limbs, i)
		}
	}
}

// checkUneven tells whether Uneven shows that a store is not even, or that it is.
func checkUneven(t *testing.T, s api.Store, is bool) {
	t.Helper()
	c, e := clay.Uneven(s)
	if is {
		if len(c.Stocks) != 0 || e != api.ErrNone {
			t.Fatal(s, c, e)
		}
		return
	}
	if e != api.OK || !isShownUneven(s, c) {
		t.Fatal(s, c, e)
	}
	if e := clay.CheckUneven(s, c); e != api.OK {
		t.Fatal(s, c, e)
	}
}

func TestUnevenExamples(t *testing.T) {
	for _, s := range []api.Store{
		unevenS(), storeS(count(6, 0, 1, 1, 1)), storeS(count(6, 2, 1, 26, 30)), storeS(count(6, 2, 1, 0, 19)),
		{Accounts: 2, Moves: []api.Move{move(1, 1, 1, 0, 1, 2), move(1, 2, 0, 1, 1, 2)}},
	} {
		checkUneven(t, s, false)
	}
	for _, s := range []api.Store{storeS(), {Accounts: 2}, storeS(count(6, 2, 2, 0, 75))} {
		checkUneven(t, s, true)
	}
	// At least 100 go in, and at most 25 and 70 out.
	c := cut(stock(1, 1), stock(1, 2), stock(2, 1), stock(2, 2))
	if e := clay.CheckUneven(unevenS(), c); e != api.OK {
		t.Error(e)
	}
	for _, c := range []api.Cut{cut(), cut(stock(1, 1)), cut(stocksOf(storeS())...), cut(stock(1, 1), stock(1, 2))} {
		if e := clay.CheckUneven(unevenS(), c); e != api.ErrTold {
			t.Error(c, e)
		}
	}
	if e := clay.CheckUneven(storeS(), c); e != api.ErrTold {
		t.Error(e)
	}
}

// Of a stock of which the counts leave nothing, a cut with it alone is taken, even if it is not uneven.
func TestCountsThatLeaveNothing(t *testing.T) {
	s := api.Store{Accounts: 3, Moves: []api.Move{move(1, 1, 0, 1, 0, 99)}, Counts: []api.Count{count(2, 1, 1, 5, 9), count(3, 1, 1, 0, 4)}}
	checkUneven(t, s, false)
	if e := clay.CheckUneven(s, cut(stock(1, 1))); e != api.OK {
		t.Error(e)
	}
	for _, c := range []api.Cut{cut(), cut(stock(2, 1)), cut(stock(1, 1), stock(2, 1)), cut(stock(2, 1), stock(1, 1))} {
		if e := clay.CheckUneven(s, c); e != api.ErrTold {
			t.Error(c, e)
		}
	}
	s.Counts[1].Weight.Hi = 5
	checkUneven(t, s, true)
	if e := clay.CheckUneven(s, cut(stock(1, 1))); e != api.ErrTold {
		t.Error(e)
	}
}

func TestUnevenOfManyStores(t *testing.T) {
	x := smalls(13)
	var seen [2]int
	for range 2000 {
		s := x.store()
		is := isEvenOf(s, 99)
		checkUneven(t, s, is)
		if is {
			seen[1]++
		} else {
			seen[0]++
		}
	}
	if slices.Min(seen[:]) < 200 {
		t.Error("the cases are lopsided", seen)
	}
}

// One count of a big store is made wrong.
func TestUnevenOfBigStores(t *testing.T) {
	r := rand.New(rand.NewSource(14))
	many := 0
	for range 300 {
		s, _ := someBig(r)
		if len(s.Counts) == 0 {
			checkUneven(t, s, true)
			continue
		}
		c := &s.Counts[r.Intn(len(s.Counts))]
		if low := c.Weight.Lo - 1 - r.Intn(50); low >= 0 && r.Intn(2) == 0 {
			c.Weight = span(0, low)
		} else if high := c.Weight.Hi + 1 + r.Intn(50); high <= api.MaxGrams {
			c.Weight = span(high, high)
		}
		is := isEven(s)
		checkUneven(t, s, is)
		if !is {
			many++
		}
	}
	if many < 50 {
		t.Error(many)
	}
}
