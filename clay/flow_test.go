package clay_test

import (
	"math"
	"math/rand"
	"testing"

	"potbank/api"
	"potbank/clay"
)

func TestStockExamples(t *testing.T) {
	for _, x := range []struct {
		account, day, want int
	}{{1, 1, 110}, {1, 2, 20}, {1, 3, 20}, {2, 1, 0}, {2, 2, 90}, {2, 3, 50}} {
		if n, e := clay.Stock(storeS(), flow(110, 90, 40), x.account, x.day); n != x.want || e != api.OK {
			t.Error(x, n, e)
		}
	}
	// A flow of the store need not agree with it.
	for _, x := range []struct {
		account, day, want int
	}{{1, 1, 100}, {1, 2, -100}, {2, 2, 200}, {2, 3, 150}} {
		if n, e := clay.Stock(storeS(), flow(100, 200, 50), x.account, x.day); n != x.want || e != api.OK {
			t.Error(x, n, e)
		}
	}
	for _, x := range []api.Stock{
		stock(0, 1), stock(0, 0), stock(3, 1), stock(-1, 1), stock(1, 0), stock(1, 4), stock(1, -1), stock(math.MinInt, 1), stock(math.MaxInt, 2),
		stock(1, math.MinInt), stock(2, math.MaxInt), stock(1, 100000),
	} {
		if n, e := clay.Stock(storeS(), flow(110, 90, 40), x.Account, x.Day); n != 0 || e != api.ErrAccount {
			t.Error(x, n, e)
		}
	}
	if n, e := clay.Stock(api.Store{Accounts: 2}, flow(), 1, 0); n != 0 || e != api.ErrAccount {
		t.Error("no days", n, e)
	}
}

// wrongFlows lists what is no flow of S.
func wrongFlows() []api.Flow {
	l := []api.Flow{{}, flow(110), flow(110, 90), flow(110, 90, 40, 0), flow(99, 90, 40), flow(111, 90, 40), flow(110, 90, 39), flow(110, 90, 51)}
	for _, n := range wrongNumbers(0, 200) {
		l = append(l, flow(110, n, 40))
	}
	return l
}

func TestCheckFlowExamples(t *testing.T) {
	for _, x := range []struct {
		f    api.Flow
		want api.Errno
	}{
		{flow(110, 90, 40), api.OK}, {flow(100, 80, 50), api.OK}, {flow(100, 75, 45), api.OK},
		{flow(100, 81, 50), api.ErrFlow},  // the account 1 has 19
		{flow(110, 84, 40), api.ErrFlow},  // 26
		{flow(100, 75, 50), api.ErrFlow},  // the account 2 has 25
		{flow(100, 200, 50), api.ErrFlow}, // the account 1 has less than nothing
	} {
		if e := clay.CheckFlow(storeS(), x.f); e != x.want {
			t.Error(x, e)
		}
	}
	for _, f := range wrongFlows() {
		if e := clay.CheckFlow(storeS(), f); e != api.ErrFlow {
			t.Error(f, e)
		}
		if n, e := clay.Stock(storeS(), f, 1, 1); n != 0 || e != api.ErrFlow {
			t.Error(f, n, e)
		}
	}
	if e := clay.CheckFlow(api.Store{Accounts: 2}, api.Flow{}); e != api.OK {
		t.Error(e)
	}
	if e := clay.CheckFlow(api.Store{Accounts: 2}, flow(0)); e != api.ErrFlow {
		t.Error(e)
	}
}

// What counts is the end of a day: within one, what comes may go on at once, even before it is told to come, and around.
func TestFlowsWithinADay(t *testing.T) {
	s := api.Store{Accounts: 3, Moves: []api.Move{move(1, 5, 1, 2, 7, 7), move(2, 5, 2, 0, 7, 7), move(3, 5, 0, 1, 7, 7)}}
	if e := clay.CheckFlow(s, flow(7, 7, 7)); e != api.OK {
		t.Error(e)
	}
	s = api.Store{Accounts: 3, Moves: []api.Move{move(1, 5, 1, 2, 7, 7), move(2, 5, 2, 1, 7, 7)}}
	if e := clay.CheckFlow(s, flow(7, 7)); e != api.OK {
		t.Error(e)
	}
	s.Moves[1].Day = 6
	if e := clay.CheckFlow(s, flow(7, 7)); e != api.ErrFlow {
		t.Error(e)
	}
}

// Each flow of a store has the stocks that its moves make day by day, and those that agree are those of the definition.
func TestAllFlows(t *testing.T) {
	var seen [2]int
	x := smalls(1)
	for range 1000 {
		s := x.store()
		var f api.Flow
		for _, m := range s.Moves {
			f.Weights = append(f.Weights, m.Weight.Lo+x.r.Intn(m.Weight.Hi-m.Weight.Lo+1))
		}
		for at, want := range heapsOf(s, f) {
			if n, e := clay.Stock(s, f, at.Account, at.Day); n != want || e != api.OK {
				t.Fatal(s, f, at, n, e)
			}
		}
		want := api.ErrFlow
		if agrees(s, f) {
			want = api.OK
			seen[0]++
		} else {
			seen[1]++
		}
		if e := clay.CheckFlow(s, f); e != want {
			t.Fatal(s, f, e)
		}
	}
	if min(seen[0], seen[1]) < 100 {
		t.Error("the cases are lopsided", seen)
	}
}

// Of a store of up to all that may be: all stocks are together what came in, less what went out.
func TestNothingIsLost(t *testing.T) {
	r := rand.New(rand.NewSource(2))
	for range 300 {
		s, f := someBig(r)
		if e := clay.CheckFlow(s, f); e != api.OK {
			t.Fatal(s, f, e)
		}
		for _, day := range daysOf(s) {
			sum := 0
			for account := 1; account < s.Accounts; account++ {
				n, e := clay.Stock(s, f, account, day)
				if e != api.OK {
					t.Fatal(s, f, account, day, e)
				}
				sum += n
			}
			for i, m := range s.Moves {
				if m.Day <= day && m.From == 0 {
					sum -= f.Weights[i]
				}
				if m.Day <= day && m.To == 0 {
					sum += f.Weights[i]
				}
			}
			if sum != 0 {
				t.Fatal(s, f, day, sum)
			}
		}
	}
}
