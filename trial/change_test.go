package trial_test

import (
	"math/rand"
	"slices"
	"testing"

	"potbank/api"
	"potbank/heat"
	"potbank/trial"
)

func TestChanged(t *testing.T) {
	all := []int{10, 11, 12}
	for _, x := range []struct {
		known, later int
		want         []int
	}{
		{2, 3, all}, {3, 9, nil}, {9, 12, all}, {3, 12, all}, {12, 3, all}, {9, 3, nil}, {2, 12, nil}, {5, 5, nil}, {0, 100000, all}, {0, 1, nil}, {1, 2, all}, {2, 1, all}, {100000, 12, nil},
	} {
		if l, e := trial.Changed(wares(), history(), x.known, x.later); !slices.Equal(l, x.want) || e != api.OK {
			t.Error(x, l, e)
		}
	}
	// No and errors are not the same: the piece 1 is not set, then No, then of a false firing; the piece 7 is of no body of the wares.
	l := listed(kiln(0, 1, 1, 1, 2, 0, 0), set(1, 2, 1, 0, 1, 1, 1), set(1, 2, 1, 0, 4, 7, 1), ring(1, 2, 1, 0, 500, 500), ring(1, 3, 1, 0, 600, 600))
	for _, x := range []struct {
		known, later int
		want         []int
	}{{1, 2, []int{1, 7}}, {2, 3, []int{1}}, {1, 3, []int{1, 7}}, {3, 2, []int{1}}, {3, 1, []int{1, 7}}} {
		if got, e := trial.Changed(wares(), l, x.known, x.later); !slices.Equal(got, x.want) || e != api.OK {
			t.Error(x, got, e)
		}
	}
}

// recalled is the last example of Recalls: the second ring tells 900 to 990, and the first one is withdrawn on 8.
func recalled() []api.Event {
	l := history()
	l[5] = at(0, 5, ring(3, 9, 1, 0, 900, 990))
	l[6] = at(0, 6, withdraw(8, 2))
	return l
}

func TestRecalls(t *testing.T) {
	both := []int{10, 11}
	more := append(recalled(), at(0, 7, sold(10, 10, 12, 2)), at(0, 8, withdraw(11, 5)), at(0, 9, withdraw(12, 4)), at(0, 10, withdraw(13, 8)), at(0, 11, withdraw(14, 1)))
	for _, x := range []struct {
		l            []api.Event
		known, later int
		want         []int
	}{
		{recalled(), 3, 9, both}, {recalled(), 2, 9, both}, {recalled(), 0, 9, both}, {recalled(), 1, 100000, both}, {recalled(), 9, 9, nil}, {recalled(), 9, 10, nil}, {recalled(), 3, 8, nil},
		{recalled(), 9, 3, nil}, {history(), 3, 9, nil}, {history(), 3, 12, nil}, {nil, 3, 12, nil},
		// 12 is sold too, then 10 and 11 no more; 13 was never set. On 14 the pieces are not set any more.
		{more, 3, 10, []int{10, 11, 12}}, {more, 3, 11, nil}, {more, 3, 12, nil}, {more, 3, 13, []int{12}}, {more, 3, 14, nil}, {more, 13, 14, nil}, {more, 9, 10, nil}, {more, 11, 13, []int{12}}, {more, 12, 10, []int{10, 11, 12}},
	} {
		if l, e := trial.Recalls(wares(), x.l, x.known, x.later); !slices.Equal(l, x.want) || e != api.OK {
			t.Error(x, l, e)
		}
	}
}

// Sold pieces that are not set, of a false firing, or of no body of the wares are not recalled.
func TestWhatIsNotRecalled(t *testing.T) {
	l := listed(kiln(0, 1, 1, 1, 1, 0, 0), set(1, 1, 1, 0, 1, 1, 1), set(1, 1, 1, 0, 4, 2, 1), ring(1, 2, 1, 0, 500, 500), ring(1, 3, 1, 0, 600, 600), sold(1, 1, 1, 3), withdraw(4, 0))
	for _, x := range []struct {
		known, later int
		want         []int
	}{{1, 2, []int{1}}, {1, 3, nil}, {2, 3, nil}, {2, 4, nil}, {1, 4, nil}, {3, 2, []int{1}}, {4, 2, []int{1}}, {0, 2, []int{1}}} {
		if got, e := trial.Recalls(wares(), l, x.known, x.later); !slices.Equal(got, x.want) || e != api.OK {
			t.Error(x, got, e)
		}
	}
}

func TestRests(t *testing.T) {
	e := func(nos ...int) []api.Entry {
		var l []api.Entry
		for _, no := range nos {
			l = append(l, entry(0, no))
		}
		return l
	}
	// Either of two equal rings is enough; the withdrawal of a ring that contradicts them is not to be missed.
	twice := listed(kiln(0, 0, 1, 1, 1, 0, 0), set(1, 1, 1, 0, 1, 5, 1), ring(1, 1, 1, 0, 1010, 1020), ring(1, 1, 1, 0, 1010, 1020), ring(1, 1, 1, 0, 500, 500), withdraw(2, 4))
	for _, x := range []struct {
		l            []api.Event
		piece, known int
		want         []api.Entry
	}{
		{history(), 10, 3, e(0, 1, 2)}, {history(), 10, 2, e(0, 1)}, {history(), 10, 9, e(0, 1, 2)}, {history(), 12, 12, e(0, 1, 6)}, {twice, 5, 2, e(0, 1, 5)}, {twice[:4], 5, 2, e(0, 1)},
	} {
		if l, e := trial.Rests(wares(), x.l, x.piece, x.known); !slices.Equal(l, x.want) || e != api.OK {
			t.Error(x, l, e)
		}
	}
	for _, x := range []struct {
		l            []api.Event
		piece, known int
		want         api.Errno
	}{
		{history(), 10, 1, api.ErrPiece}, {history(), 13, 3, api.ErrPiece}, {twice, 5, 1, api.ErrFalse}, {listed(kiln(0, 0, 1, 1, 1, 0, 0), set(1, 1, 1, 0, 4, 5, 1)), 5, 2, api.ErrNone},
	} {
		if l, e := trial.Rests(wares(), x.l, x.piece, x.known); len(l) != 0 || e != x.want {
			t.Error(x, l, e)
		}
	}
}

func TestMoved(t *testing.T) {
	all := []int{10, 11, 12}
	for _, x := range []struct {
		no, known int
		want      []int
	}{
		{2, 3, all}, {2, 9, all}, {2, 12, nil}, {2, 2, nil}, {0, 2, all}, {1, 2, all}, {1, 1, nil}, {3, 12, nil}, {4, 12, nil}, {5, 9, nil}, {5, 12, nil}, {6, 12, all}, {6, 11, nil},
	} {
		if l, e := trial.Moved(wares(), history(), entry(0, x.no), x.known); !slices.Equal(l, x.want) || e != api.OK {
			t.Error(x, l, e)
		}
	}
	for _, x := range append(wrongEntries(), entry(0, 7), entry(1, 0), entry(5, 9999)) {
		if l, e := trial.Moved(wares(), history(), x, 3); len(l) != 0 || e != api.ErrNone {
			t.Error(x, l, e)
		}
	}
	// What is set over there moves without the kiln, and so does what could not be set with it.
	l := listed(kiln(0, 0, 1, 1, 1, 0, 0), set(1, 1, 1, 0, 1, 5, 2), set(2, 1, 1, 0, 4, 6, 3), ring(3, 1, 1, 0, 500, 500))
	for no, want := range [][]int{{5, 6}, {5, 6, 7, 8}, nil, {5, 6}} {
		if got, e := trial.Moved(wares(), l, entry(0, no), 1); !slices.Equal(got, want) || e != api.OK {
			t.Error(no, got, e)
		}
	}
}

func TestChangesOfManyLists(t *testing.T) {
	r := rand.New(rand.NewSource(8))
	changed, recalls, moved, rests := 0, 0, 0, 0
	for range 1500 {
		l := someEvents(r, 2, 10)
		known, later := r.Intn(lastDay+1), r.Intn(lastDay+1)
		w, v := worldOf(l, known), worldOf(l, later)
		want := w.others(wares(), v)
		changed += len(want)
		if got, e := trial.Changed(wares(), l, known, later); !slices.Equal(got, want) || e != api.OK {
			t.Fatal(l, known, later, got, want, e)
		}
		want = slices.DeleteFunc(want, func(no int) bool {
			_, isSold := v.sold[no]
			return !isSold || v.verdict(wares(), no) != told{api.No, api.OK}
		})
		recalls += len(want)
		if got, e := trial.Recalls(wares(), l, known, later); !slices.Equal(got, want) || e != api.OK {
			t.Fatal(l, known, later, got, want, e)
		}
		movedBy := map[int][]api.Entry{}
		for i, x := range l {
			want := w.others(wares(), worldOf(slices.Delete(slices.Clone(l), i, i+1), known))
			moved += len(want)
			if got, e := trial.Moved(wares(), l, x.At, known); !slices.Equal(got, want) || e != api.OK {
				t.Fatal(l, x, known, got, want, e)
			}
			for _, no := range want {
				movedBy[no] = append(movedBy[no], x.At)
			}
		}
		for no := 1; no <= lastPiece; no++ {
			v := w.verdict(wares(), no)
			want := movedBy[no]
			if v.err != api.OK {
				want = nil
			}
			rests += len(want)
			if got, e := trial.Rests(wares(), l, no, known); !slices.Equal(got, want) || e != v.err {
				t.Fatal(l, no, known, got, want, e)
			}
		}
	}
	if changed < 1000 || recalls < 50 || moved < 1000 || rests < 1000 {
		t.Error("the cases are lopsided", changed, recalls, moved, rests)
	}
}

// isKnownAlike reports whether two lists tell the same, as known on a day.
func isKnownAlike(t *testing.T, l, m []api.Event, known int) bool {
	t.Helper()
	a, _ := trial.Void(l, known)
	b, e := trial.Void(m, known)
	if !slices.Equal(a, b) || e != api.OK {
		return false
	}
	for firing := 1; firing <= 2; firing++ {
		a, e := trial.Batch(l, firing, known)
		b, f := trial.Batch(m, firing, known)
		if !isSameBatch(a, b) || e != f {
			return false
		}
		n, e := trial.Together(wares(), l, firing, known)
		o, f := trial.Together(wares(), m, firing, known)
		if n != o || e != f {
			return false
		}
	}
	for no := 1; no <= lastPiece; no++ {
		a, _ := trial.Piece(l, no, known)
		b, _ := trial.Piece(m, no, known)
		n, e := trial.Verdict(wares(), l, no, known)
		o, f := trial.Verdict(wares(), m, no, known)
		if a != b || n != o || e != f {
			return false
		}
	}
	return true
}

func TestWhatIsKnownLaterChangesNothing(t *testing.T) {
	r := rand.New(rand.NewSource(9))
	for range 400 {
		l := someEvents(r, 2, 10)
		known := r.Intn(lastDay + 1)
		then := slices.DeleteFunc(slices.Clone(l), func(x api.Event) bool { return x.Known > known })
		if !isKnownAlike(t, l, then, known) {
			t.Fatal(l, known)
		}
		more := slices.Clone(l)
		for _, x := range someEvents(r, 5, 5) {
			if y := at(x.At.House, x.At.No+20, x); y.Known > known {
				more, _ = trial.Add(more, y)
			}
		}
		if !isKnownAlike(t, l, more, known) {
			t.Fatal(l, more, known)
		}
	}
}

// doesName reports whether an event of a list names an entry.
func doesName(l []api.Event, at api.Entry) bool {
	return slices.ContainsFunc(l, func(x api.Event) bool { return x.Kind == api.EvWithdraw && x.Of == at })
}

func TestWhatIsWithdrawnChangesNothing(t *testing.T) {
	r := rand.New(rand.NewSource(10))
	seen := 0
	for range 200 {
		l := someEvents(r, 2, 10)
		for _, y := range l {
			if y.Kind != api.EvWithdraw {
				continue
			}
			rest := slices.DeleteFunc(slices.Clone(l), func(x api.Event) bool { return x.At == y.At || x.At == y.Of })
			if len(rest) > len(l)-2 || doesName(rest, y.At) || doesName(rest, y.Of) {
				continue
			}
			seen++
			for known := y.Known; known <= lastDay; known++ {
				if !isKnownAlike(t, l, rest, known) {
					t.Fatal(l, y, known)
				}
			}
		}
	}
	if seen < 75 {
		t.Error("the cases are lopsided", seen)
	}
}

func TestVerdictsOfADayAreThoseOfTheLastDate(t *testing.T) {
	r := rand.New(rand.NewSource(11))
	for range 200 {
		l := part(r, someEvents(r, 2, 10), 3)
		dates, e := trial.Dates(l)
		if e != api.OK {
			t.Fatal(l, e)
		}
		last, isNone := 0, true
		for known := range lastDay + 3 {
			if slices.Contains(dates, known) {
				last, isNone = known, false
			}
			for no := 1; no <= lastPiece; no++ {
				n, e := trial.Verdict(wares(), l, no, known)
				m, f := trial.Verdict(wares(), l, no, last)
				if n != m || e != f || isNone && e != api.ErrPiece {
					t.Fatal(l, known, last, no, n, m, e, f)
				}
			}
		}
	}
}

// A reading that is not void moves Maybes of its firing alone, as long as the firing stays sound.
func TestAReadingMovesWhatItReaches(t *testing.T) {
	r := rand.New(rand.NewSource(12))
	seen, moves, stay := 0, 0, 0
	for range 4000 {
		l := someEvents(r, 2, 9)
		x := at(2, 0, someReading(r, r.Intn(6), 0, 1+r.Intn(2), r.Intn(3)))
		with, _ := trial.Add(l, x)
		void, _ := trial.Void(with, lastDay)
		b, e := trial.Batch(with, x.Firing, lastDay)
		if slices.Contains(void, x.At) || e != api.OK {
			continue
		}
		if is, _ := heat.Sound(b.Firing); !is {
			continue
		}
		seen++
		moved, e := trial.Moved(wares(), with, x.At, lastDay)
		if e != api.OK {
			t.Fatal(with, e)
		}
		for no := 1; no <= lastPiece; no++ {
			n, e := trial.Verdict(wares(), l, no, lastDay)
			m, f := trial.Verdict(wares(), with, no, lastDay)
			isMoved := n != m || e != f
			p, _ := trial.Piece(l, no, lastDay)
			if isMoved != slices.Contains(moved, no) || isMoved && (n != api.Maybe || e != api.OK || p.Firing != x.Firing) {
				t.Fatal(l, x, no, n, m, e, f)
			}
			if isMoved {
				moves++
			} else if e == api.OK {
				stay++
			}
		}
	}
	if seen < 500 || moves < 250 || stay < 500 {
		t.Error("the cases are lopsided", seen, moves, stay)
	}
}

func TestRecalledPiecesAreWrong(t *testing.T) {
	r := rand.New(rand.NewSource(13))
	seen := 0
	for range 5000 {
		l := someEvents(r, 2, 10)
		known, later := r.Intn(lastDay+1), r.Intn(lastDay+1)
		recalls, e := trial.Recalls(wares(), l, known, later)
		if e != api.OK {
			t.Fatal(l, e)
		}
		for _, no := range recalls {
			seen++
			p, _ := trial.Piece(l, no, later)
			b, _ := trial.Batch(l, p.Firing, later)
			want, _ := heatOf(wares(), p.Body)
			_, e := heat.Show(b.Firing, []api.Want{{Place: p.Place, Heat: want}})
			if p.Sold < 0 || p.Firing == 0 || e != api.ErrNone {
				t.Fatal(l, known, later, no, p, e)
			}
		}
	}
	if seen < 100 {
		t.Error("the cases are lopsided", seen)
	}
}
