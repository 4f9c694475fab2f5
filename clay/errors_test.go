package clay_test

import (
	"math"
	"slices"
	"testing"

	"potbank/api"
	"potbank/clay"
	"potbank/probe"
)

// args are all that the functions of the package take; uneven is the store of those that ask for one that is not even.
type args struct {
	accounts      int
	move          api.Move
	count         api.Count
	store, uneven api.Store
	source        int
	flow          api.Flow
	stock         api.Stock
	what          api.What
	high          bool
	n             int
	cut           api.Cut
	by            []int
}

type call = probe.Call[args]

func isNoFlow(f api.Flow) bool { return len(f.Weights) == 0 }

func isNoCut(c api.Cut) bool { return len(c.Stocks) == 0 }

func storeCalls() []call {
	store := []api.Errno{api.ErrStore}
	and := func(more ...api.Errno) []api.Errno { return slices.Concat(store, more) }
	return []call{
		probe.Of("CheckMove", []api.Errno{api.ErrMove}, func(x args) probe.Told { return probe.Error(clay.CheckMove(x.accounts, x.move)) }),
		probe.Of("CheckCount", []api.Errno{api.ErrCount}, func(x args) probe.Told { return probe.Error(clay.CheckCount(x.accounts, x.count)) }),
		probe.Of("Check", nil, func(x args) probe.Told { return probe.Error(clay.Check(x.store)) }),
		probe.Of("Days", store, func(x args) probe.Told { return probe.List(clay.Days(x.store)) }),
		probe.Of("With", and(api.ErrMove, api.ErrLong), func(x args) probe.Told { return probe.By(isNone)(clay.With(x.store, x.move)) }),
		probe.Of("Counted", and(api.ErrCount, api.ErrLong), func(x args) probe.Told { return probe.By(isNone)(clay.Counted(x.store, x.count)) }),
		probe.Of("Sources", store, func(x args) probe.Told { return probe.List(clay.Sources(x.store)) }),
		probe.Of("Without", and(api.ErrNone), func(x args) probe.Told { return probe.By(isNone)(clay.Without(x.store, x.source)) }),
		probe.Of("Stock", and(api.ErrFlow, api.ErrAccount), func(x args) probe.Told {
			return probe.Value(clay.Stock(x.store, x.flow, x.stock.Account, x.stock.Day))
		}),
		probe.Of("CheckFlow", and(api.ErrFlow), func(x args) probe.Told { return probe.Error(clay.CheckFlow(x.store, x.flow)) }),
		probe.Of("Even", store, func(x args) probe.Told { return probe.Value(clay.Even(x.store)) }),
	}
}

func weightCalls() []call {
	store := []api.Errno{api.ErrStore}
	weight := []api.Errno{api.ErrStore, api.ErrAccount, api.ErrUneven}
	and := func(more ...api.Errno) []api.Errno { return slices.Concat(store, more) }
	return []call{
		probe.Of("Bound", weight, func(x args) probe.Told { return probe.Value(clay.Bound(x.store, x.what)) }),
		probe.Of("Attain", weight, func(x args) probe.Told { return probe.By(isNoFlow)(clay.Attain(x.store, x.what, x.high)) }),
		probe.Of("Prove", weight, func(x args) probe.Told { return probe.By(isNoCut)(clay.Prove(x.store, x.what, x.high)) }),
		probe.Of("Moves", weight, func(x args) probe.Told { return probe.List(clay.Moves(x.store, x.what)) }),
		probe.Of("CheckCut", and(api.ErrAccount, api.ErrCut, api.ErrTold), func(x args) probe.Told {
			return probe.Error(clay.CheckCut(x.store, x.what, x.high, x.n, x.cut))
		}),
		probe.Of("Uneven", and(api.ErrNone), func(x args) probe.Told { return probe.By(isNoCut)(clay.Uneven(x.uneven)) }),
		probe.Of("CheckUneven", and(api.ErrCut, api.ErrTold), func(x args) probe.Told { return probe.Error(clay.CheckUneven(x.uneven, x.cut)) }),
		probe.Of("Conflict", and(api.ErrNone), func(x args) probe.Told { return probe.List(clay.Conflict(x.uneven)) }),
		probe.Of("CheckConflict", and(api.ErrSet), func(x args) probe.Told { return probe.Error(clay.CheckConflict(x.uneven, x.by)) }),
	}
}

func allCalls() []call { return slices.Concat(storeCalls(), weightCalls()) }

func right() args {
	return args{
		accounts: 3, move: move(9, 2, 2, 0, 5, 6), count: count(9, 2, 1, 5, 60), store: storeS(), uneven: unevenS(), source: 4, flow: flow(110, 90, 40),
		stock: stock(1, 2), what: moved(1), high: true, n: 90, cut: cut(stock(1, 1), stock(1, 2)), by: []int{1, 4, 6},
	}
}

// spoilt returns right arguments with those made wrong that have one of the errors.
func spoilt(errors []api.Errno) args {
	x := right()
	// A store that is not valid has no other error, so this one comes last.
	for _, e := range slices.Backward(errors) {
		switch e {
		case api.ErrMove:
			x.move.To = x.move.From
		case api.ErrCount:
			x.count.Account = 0
		case api.ErrLong: // eight days, and the ninth one
			x.store = onDays(1, 2, 3, 4, 5, 6, 7, 8)
			x.store.Accounts = 3
			x.move.Day, x.count.Day = 9, 9
		case api.ErrNone:
			x.source, x.uneven = 77, storeS()
		case api.ErrFlow:
			x.flow.Weights[2] = 99
		case api.ErrAccount:
			x.stock, x.what = stock(0, 1), moved(3)
		case api.ErrUneven:
			x.store = unevenS()
		case api.ErrCut:
			x.cut.Stocks[1] = x.cut.Stocks[0]
		case api.ErrTold: // of what is uneven it shows nothing already
			x.n = 89
		case api.ErrSet:
			x.by = []int{1, 4}
		case api.ErrStore:
			x.store.Moves[1].Source, x.uneven.Counts[1].Source = 0, 0
		}
	}
	return x
}

func TestFirstErrorDecides(t *testing.T) {
	for _, name := range probe.OutOfOrder(allCalls(), spoilt) {
		t.Error(name)
	}
}

// checkErrors runs all calls with arguments of which one is wrong.
func checkErrors(t *testing.T, want api.Errno, spoil func(x *args)) {
	t.Helper()
	x := right()
	spoil(&x)
	for _, name := range probe.Missed(allCalls(), want, x) {
		t.Error(name, x)
	}
}

func wrongStores() []api.Store {
	stores := []api.Store{
		{}, {Accounts: 1}, {Accounts: 8}, {Accounts: math.MinInt}, {Accounts: math.MaxInt}, long(41, 0), long(0, 21), long(400, 400),
		onDays(1, 2, 3, 4, 5, 6, 7, 8, 9),
	}
	for _, m := range wrongMoves() {
		s := storeS()
		s.Moves = append(s.Moves, m)
		stores = append(stores, s)
	}
	for _, c := range wrongCounts() {
		stores = append(stores, storeS(c))
	}
	return stores
}

func TestEachWrongArgument(t *testing.T) {
	for _, s := range wrongStores() {
		checkErrors(t, api.ErrStore, func(x *args) { x.store, x.uneven = s, s })
	}
	for _, w := range wrongWhats() {
		checkErrors(t, api.ErrAccount, func(x *args) { x.what, x.stock = w, stock(3, 1) })
	}
	for _, c := range wrongCuts() {
		checkErrors(t, api.ErrCut, func(x *args) { x.cut = c })
	}
	for _, s := range []api.Store{unevenS(), storeS(count(6, 0, 1, 1, 1)), storeS(count(6, 2, 1, 26, 30))} {
		checkErrors(t, api.ErrUneven, func(x *args) { x.store = s })
	}
}

// Only some functions ask for an even store.
func TestWhatNeedNotBeEven(t *testing.T) {
	asked := []string{"Bound", "Attain", "Prove", "Moves"}
	for _, c := range allCalls() {
		x := right()
		x.store = unevenS()
		if told := c.Run(x); (told.Error == api.ErrUneven) != slices.Contains(asked, c.Name) {
			t.Error(c.Name, told)
		}
	}
}

func TestCheckCutNeedsNoEvenStore(t *testing.T) {
	if e := clay.CheckCut(unevenS(), moved(1), true, 90, cut(stock(1, 1), stock(1, 2))); e != api.OK {
		t.Error(e)
	}
	if e := clay.CheckCut(unevenS(), kept(2, 2), true, 70, cut()); e != api.OK {
		t.Error(e)
	}
}

func TestArgumentsAreNotChanged(t *testing.T) {
	for _, s := range []api.Store{storeS(), unevenS(), storeS(count(9, 9, 1, 0, 99), count(3, 0, 2, 0, 1))} {
		x, y := right(), right()
		// Room for what an append would write into.
		x.store = api.Store{Accounts: 3, Moves: append(make([]api.Move, 0, 9), s.Moves...), Counts: append(make([]api.Count, 0, 9), s.Counts...)}
		x.uneven = x.store
		for _, call := range allCalls() {
			call.Run(x)
			if !isSame(x.store, s) || !slices.Equal(x.flow.Weights, y.flow.Weights) || !slices.Equal(x.cut.Stocks, y.cut.Stocks) || !slices.Equal(x.by, y.by) ||
				x.store.Moves[:4][3] != (api.Move{}) || x.store.Counts[:len(s.Counts)+1][len(s.Counts)] != (api.Count{}) {
				t.Fatal(call.Name, x)
			}
		}
	}
}

// What is called twice with the same tells the same.
func TestNothingIsKept(t *testing.T) {
	first, _ := clay.Attain(storeS(), moved(1), true)
	first.Weights[0] = 1
	if again, e := clay.Attain(storeS(), moved(1), true); e != api.OK || !agrees(storeS(), again) {
		t.Error(again, e)
	}
	c, _ := clay.Prove(storeS(), moved(1), true)
	kept := slices.Clone(c.Stocks)
	c.Stocks[0] = stock(9, 9)
	if again, e := clay.Prove(storeS(), moved(1), true); e != api.OK || !slices.Equal(again.Stocks, kept) {
		t.Error(again, e)
	}
	by := []int{1, 4, 6}
	l, _ := clay.Conflict(unevenS())
	l[0] = 9
	if again, e := clay.Conflict(unevenS()); e != api.OK || !slices.Equal(again, by) {
		t.Error(again, e)
	}
}
