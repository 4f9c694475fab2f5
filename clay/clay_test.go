package clay_test

import (
	"math"
	"slices"
	"testing"

	"potbank/api"
	"potbank/clay"
)

// wrongMoves lists moves that are not valid for 3 accounts.
func wrongMoves() []api.Move {
	l := []api.Move{{}, move(1, 1, 0, 0, 1, 2), move(1, 1, 2, 2, 1, 2), move(1, 1, 3, 3, 1, 2), move(1, 1, -1, -1, 1, 2)}
	for _, n := range wrongNumbers(1, 99999) {
		l = append(l, move(n, 1, 0, 1, 1, 2))
	}
	for _, n := range wrongNumbers(0, 100000) {
		l = append(l, move(1, n, 0, 1, 1, 2))
	}
	for _, n := range wrongNumbers(0, 2) {
		l = append(l, move(1, 1, n, 1, 1, 2), move(1, 1, 1, n, 1, 2))
	}
	for _, r := range wrongRanges(0, 1000000000) {
		l = append(l, move(1, 1, 0, 1, r.Lo, r.Hi))
	}
	return l
}

// wrongCounts lists counts that are not valid for 3 accounts.
func wrongCounts() []api.Count {
	l := []api.Count{{}, count(1, 1, 0, 1, 2)}
	for _, n := range wrongNumbers(1, 99999) {
		l = append(l, count(n, 1, 1, 1, 2))
	}
	for _, n := range wrongNumbers(0, 100000) {
		l = append(l, count(1, n, 1, 1, 2))
	}
	for _, n := range wrongNumbers(1, 2) {
		l = append(l, count(1, 1, n, 1, 2))
	}
	for _, r := range wrongRanges(0, 1000000000) {
		l = append(l, count(1, 1, 1, r.Lo, r.Hi))
	}
	return l
}

func TestCheckMove(t *testing.T) {
	for _, m := range []api.Move{
		move(1, 0, 0, 1, 0, 0), move(99999, 100000, 1, 0, 1000000000, 1000000000), move(1, 1, 1, 2, 0, 1000000000), move(1, 1, 2, 0, 5, 6),
	} {
		if e := clay.CheckMove(3, m); e != api.OK {
			t.Error(m, e)
		}
	}
	for _, m := range wrongMoves() {
		if e := clay.CheckMove(3, m); e != api.ErrMove {
			t.Error(m, e)
		}
	}
	for _, accounts := range []int{2, 7} {
		if e := clay.CheckMove(accounts, move(1, 1, accounts-1, 0, 0, 0)); e != api.OK {
			t.Error(accounts, e)
		}
		if e := clay.CheckMove(accounts, move(1, 1, 0, accounts, 0, 0)); e != api.ErrMove {
			t.Error(accounts, e)
		}
	}
	for _, accounts := range append(wrongNumbers(2, 7), 0, -1) {
		if e := clay.CheckMove(accounts, move(1, 1, 0, 1, 0, 0)); e != api.ErrMove {
			t.Error(accounts, e)
		}
	}
}

func TestCheckCount(t *testing.T) {
	for _, c := range []api.Count{
		count(1, 0, 1, 0, 0), count(99999, 100000, 2, 1000000000, 1000000000), count(1, 1, 1, 0, 1000000000), count(1, 1, 2, 5, 6),
	} {
		if e := clay.CheckCount(3, c); e != api.OK {
			t.Error(c, e)
		}
	}
	for _, c := range wrongCounts() {
		if e := clay.CheckCount(3, c); e != api.ErrCount {
			t.Error(c, e)
		}
	}
	for _, accounts := range []int{2, 7} {
		if e := clay.CheckCount(accounts, count(1, 1, accounts-1, 0, 0)); e != api.OK {
			t.Error(accounts, e)
		}
		if e := clay.CheckCount(accounts, count(1, 1, accounts, 0, 0)); e != api.ErrCount {
			t.Error(accounts, e)
		}
	}
	for _, accounts := range append(wrongNumbers(2, 7), 0, -1) {
		if e := clay.CheckCount(accounts, count(1, 1, 1, 0, 0)); e != api.ErrCount {
			t.Error(accounts, e)
		}
	}
}

// onDays returns a store with a move, or a count, on each of some days, in turn.
func onDays(days ...int) api.Store {
	s := api.Store{Accounts: 2}
	for i, day := range days {
		if i%2 == 0 {
			s.Moves = append(s.Moves, move(i+1, day, 0, 1, 0, 9))
		} else {
			s.Counts = append(s.Counts, count(i+1, day, 1, 0, 99))
		}
	}
	return s
}

// long returns a store of so many moves and counts, all on one day.
func long(moves, counts int) api.Store {
	return api.Store{Accounts: 3, Moves: slices.Repeat([]api.Move{move(1, 1, 0, 1, 0, 9)}, moves), Counts: slices.Repeat([]api.Count{count(1, 1, 1, 0, 9)}, counts)}
}

func TestCheckExamples(t *testing.T) {
	wrongMove, wrongCount := storeS(), storeS()
	wrongMove.Moves[2].To = 3
	wrongCount.Counts[1].Account = 0
	both := storeS()
	both.Moves[2].To, both.Counts[0].Account = 3, 0
	manyMoves, manyCounts := long(41, 0), long(0, 21)
	manyMoves.Moves[0].Source, manyCounts.Counts[0].Source = 0, 0
	manyDays := onDays(1, 2, 3, 4, 5, 6, 7, 8, 9)
	manyDays.Counts[3].Source = 0
	for _, x := range []struct {
		s    api.Store
		want api.Errno
	}{
		{storeS(), api.OK}, {unevenS(), api.OK}, {api.Store{Accounts: 2}, api.OK}, {api.Store{Accounts: 7}, api.OK},
		{api.Store{Accounts: 2, Moves: []api.Move{}, Counts: []api.Count{}}, api.OK},
		{api.Store{}, api.ErrAccount}, {api.Store{Accounts: 1}, api.ErrAccount}, {api.Store{Accounts: 8}, api.ErrAccount},
		{api.Store{Accounts: math.MinInt}, api.ErrAccount}, {api.Store{Accounts: math.MaxInt, Moves: manyMoves.Moves}, api.ErrAccount},
		{long(40, 20), api.OK}, {long(41, 0), api.ErrLong}, {long(0, 21), api.ErrLong}, {manyMoves, api.ErrLong}, {manyCounts, api.ErrLong},
		{wrongMove, api.ErrMove}, {wrongCount, api.ErrCount}, {both, api.ErrMove},
		{onDays(1, 2, 3, 4, 5, 6, 7, 8), api.OK}, {onDays(8, 7, 6, 5, 4, 3, 2, 1, 8, 7, 6, 5, 4), api.OK}, {onDays(1, 2, 3, 4, 5, 6, 7, 8, 9), api.ErrLong},
		{onDays(0, 100000, 1, 99999, 2, 99998, 3, 99997), api.OK}, {onDays(0, 100000, 1, 99999, 2, 99998, 3, 99997, 4), api.ErrLong},
		{manyDays, api.ErrCount},
	} {
		if e := clay.Check(x.s); e != x.want {
			t.Error(x, e)
		}
	}
	for _, m := range wrongMoves() {
		s := storeS()
		s.Moves[1] = m
		if e := clay.Check(s); e != api.ErrMove {
			t.Error(m, e)
		}
	}
	for _, c := range wrongCounts() {
		s := storeS()
		s.Counts[1] = c
		if e := clay.Check(s); e != api.ErrCount {
			t.Error(c, e)
		}
	}
}

func TestDays(t *testing.T) {
	for _, x := range []struct {
		s    api.Store
		want []int
	}{
		{storeS(), []int{1, 2, 3}}, {api.Store{Accounts: 2}, nil}, {onDays(100000, 0, 7, 7, 0, 5), []int{0, 5, 7, 100000}}, {long(40, 20), []int{1}},
		{onDays(8, 7, 6, 5, 4, 3, 2, 1), []int{1, 2, 3, 4, 5, 6, 7, 8}},
	} {
		if l, e := clay.Days(x.s); !slices.Equal(l, x.want) || e != api.OK {
			t.Error(x, l, e)
		}
	}
}

func TestWith(t *testing.T) {
	m := move(9, 2, 2, 0, 5, 6)
	s := storeS()
	more, e := clay.With(s, m)
	if e != api.OK || !slices.Equal(more.Moves, append(s.Moves, m)) || !slices.Equal(more.Counts, s.Counts) || more.Accounts != 3 {
		t.Error(more, e)
	}
	more.Moves[0].Source, more.Counts[0].Source = 77, 77
	if !isSame(s, storeS()) {
		t.Error("the result shares memory with the argument", s)
	}
	for _, m := range wrongMoves() {
		if s, e := clay.With(storeS(), m); !isNone(s) || e != api.ErrMove {
			t.Error(m, s, e)
		}
		if s, e := clay.With(long(40, 0), m); !isNone(s) || e != api.ErrMove {
			t.Error(m, s, e)
		}
	}
	for _, x := range []struct {
		s    api.Store
		day  int
		want api.Errno
	}{
		{long(39, 20), 1, api.OK}, {long(40, 20), 1, api.ErrLong}, {long(40, 0), 1, api.ErrLong},
		{onDays(1, 2, 3, 4, 5, 6, 7), 9, api.OK}, {onDays(1, 2, 3, 4, 5, 6, 7, 8), 9, api.ErrLong}, {onDays(1, 2, 3, 4, 5, 6, 7, 8), 4, api.OK},
	} {
		if s, e := clay.With(x.s, move(9, x.day, 1, 0, 5, 6)); e != x.want || isNone(s) == (e == api.OK) {
			t.Error(x, s, e)
		}
	}
}

func TestCounted(t *testing.T) {
	c := count(9, 2, 1, 5, 6)
	s := storeS()
	more, e := clay.Counted(s, c)
	if e != api.OK || !isSame(more, storeS(c)) {
		t.Error(more, e)
	}
	more.Moves[0].Source, more.Counts[0].Source = 77, 77
	if !isSame(s, storeS()) {
		t.Error("the result shares memory with the argument", s)
	}
	for _, c := range wrongCounts() {
		if s, e := clay.Counted(storeS(), c); !isNone(s) || e != api.ErrCount {
			t.Error(c, s, e)
		}
		if s, e := clay.Counted(long(0, 20), c); !isNone(s) || e != api.ErrCount {
			t.Error(c, s, e)
		}
	}
	for _, x := range []struct {
		s    api.Store
		day  int
		want api.Errno
	}{
		{long(40, 19), 1, api.OK}, {long(40, 20), 1, api.ErrLong}, {long(0, 20), 1, api.ErrLong},
		{onDays(1, 2, 3, 4, 5, 6, 7), 9, api.OK}, {onDays(1, 2, 3, 4, 5, 6, 7, 8), 9, api.ErrLong}, {onDays(1, 2, 3, 4, 5, 6, 7, 8), 4, api.OK},
	} {
		if s, e := clay.Counted(x.s, count(9, x.day, 1, 5, 6)); e != x.want || isNone(s) == (e == api.OK) {
			t.Error(x, s, e)
		}
	}
}
