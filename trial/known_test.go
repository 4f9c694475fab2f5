package trial_test

import (
	"math/rand"
	"slices"
	"testing"

	"potbank/api"
	"potbank/heat"
	"potbank/trial"
)

func isSameBatch(x, y api.Batch) bool {
	return x.Id == y.Id && x.Drawn == y.Drawn && slices.Equal(x.Firing.Readings, y.Firing.Readings) &&
		slices.EqualFunc(x.Firing.Kiln.Falls, y.Firing.Kiln.Falls, slices.Equal[[]api.Range])
}

func isNoBatch(x api.Batch) bool { return isSameBatch(x, api.Batch{}) }

func TestStanding(t *testing.T) {
	// The last one withdraws the one ahead of it, and that the event 1.
	back := listed(drawn(1, 1, 1), drawn(1, 1, 2), withdraw(5, 1), withdraw(7, 2))
	for _, x := range []struct {
		l     []api.Event
		known int
		want  []int
	}{
		{nil, 5, nil}, {history(), 0, nil}, {history(), 1, []int{0}}, {history(), 3, []int{0, 1, 2}}, {history(), 6, []int{0, 1, 2, 3, 4}},
		{history(), 11, []int{0, 1, 2, 3, 4, 5}}, {history(), 12, []int{0, 1, 3, 4, 5, 6}}, {history(), 100000, []int{0, 1, 3, 4, 5, 6}},
		{back, 1, []int{0, 1}}, {back, 5, []int{0, 2}}, {back, 6, []int{0, 2}}, {back, 7, []int{0, 1, 3}},
		// A withdrawal may be known ahead of what it withdraws, and may name what is not there.
		{listed(drawn(1, 9, 1), withdraw(2, 0)), 5, []int{1}}, {listed(drawn(1, 9, 1), withdraw(2, 0)), 9, []int{1}},
		{[]api.Event{at(1, 7, withdraw(2, 3))}, 2, []int{0}},
		// Two withdraw one event, and one of them is withdrawn.
		{listed(drawn(1, 1, 1), withdraw(1, 0), withdraw(1, 0), withdraw(1, 2)), 1, []int{1, 3}},
		{listed(drawn(1, 1, 1), withdraw(1, 0), withdraw(1, 0), withdraw(1, 2), withdraw(1, 1)), 1, []int{0, 3, 4}},
		{listed(drawn(1, 1, 1), withdraw(1, 0), withdraw(1, 1), withdraw(1, 2)), 1, []int{1, 3}},
		// The same No of another house.
		{[]api.Event{at(0, 1, drawn(1, 1, 1)), at(1, 1, drawn(1, 1, 1)), at(1, 2, withdraw(1, 1))}, 1, []int{0, 2}},
	} {
		if l, e := trial.Standing(x.l, x.known); !slices.Equal(l, x.want) || e != api.OK {
			t.Error(x, l, e)
		}
	}
}

// voids are lists of which the last event is void, and no other one.
func voids() [][]api.Event {
	two, other := kiln(1, 1, 1, 2, 3, 100, 200), kiln(1, 1, 2, 1, 1, 5, 5)
	ten := set(2, 1, 1, 0, 1, 10, 3)
	l := [][]api.Event{
		{two, two}, {two, kiln(1, 1, 1, 1, 1, 0, 0)}, {two, kiln(9, 1, 1, 6, 24, 0, 0)}, {two, drawn(1, 1, 1), two},
		{fall(1, 1, 1, 0, 0, 1, 2)}, {two, fall(1, 1, 2, 0, 0, 1, 2)}, {two, fall(1, 1, 1, 2, 0, 1, 2)}, {two, fall(1, 1, 1, 5, 0, 1, 2)}, {two, fall(1, 1, 1, 0, 3, 1, 2)},
		{two, fall(1, 1, 1, 1, 23, 1, 2)}, {two, other, fall(1, 1, 2, 1, 0, 1, 2)}, {two, other, fall(1, 1, 2, 0, 1, 1, 2)},
		{ten}, {two, set(2, 1, 2, 0, 1, 10, 3)}, {two, set(2, 1, 1, 3, 1, 10, 3)}, {two, set(2, 1, 1, 23, 1, 10, 3)}, {two, other, set(2, 1, 2, 1, 1, 10, 3)},
		{two, drawn(2, 1, 1), ten}, {two, drawn(1, 1, 1), ten}, {two, ten, ten}, {two, ten, set(2, 1, 1, 1, 2, 12, 1)}, {two, ten, set(2, 1, 1, 1, 2, 12, 5)},
		{two, ten, set(2, 1, 1, 1, 2, 10, 1)}, {two, ten, set(2, 1, 1, 1, 2, 8, 3)}, {two, ten, set(2, 1, 1, 1, 2, 11, 1)}, {two, ten, set(2, 1, 1, 1, 2, 1, 40)},
		{two, other, ten, set(2, 1, 2, 0, 1, 12, 1)}, {two, ten, drawn(3, 1, 1), set(3, 1, 1, 0, 1, 1, 1)},
		{ring(2, 1, 1, 0, 5, 6)}, {two, ring(2, 1, 2, 0, 5, 6)}, {two, ring(2, 1, 1, 3, 5, 6)}, {two, bent(2, 1, 1, 23, 5)}, {two, other, standing(2, 1, 2, 1, 5)},
		{drawn(1, 1, 1)}, {two, drawn(1, 1, 2)}, {two, drawn(2, 1, 1), drawn(2, 1, 1)}, {two, drawn(2, 1, 1), drawn(3, 1, 1)},
	}
	for _, kind := range []int{api.EvSold, api.EvBroken, api.EvSecond} {
		x := pieces(kind, 2, 1, 10, 3)
		l = append(l, [][]api.Event{
			{x, x}, {x, pieces(kind, 3, 1, 12, 1)}, {x, pieces(kind, 2, 1, 8, 3)}, {x, pieces(kind, 2, 1, 1, 40)}, {x, pieces(kind, 2, 1, 11, 1)}, {two, ten, x, x},
		}...)
	}
	return l
}

func TestVoid(t *testing.T) {
	for _, x := range voids() {
		l := listed(x...)
		if void, e := trial.Void(l, 1); !slices.Equal(void, []api.Entry{entry(0, len(l)-1)}) || e != api.OK {
			t.Error(l, void, e)
		}
		if void, e := trial.Void(l, 0); len(void) != 0 || e != api.OK {
			t.Error(l, void, e)
		}
		// Withdrawn, it is not void; nor is a withdrawal ever.
		l = append(l, at(0, len(l), withdraw(1, len(l)-1)))
		if void, e := trial.Void(l, 1); len(void) != 0 || e != api.OK {
			t.Error(l, void, e)
		}
	}
}

func TestWhatIsNotVoid(t *testing.T) {
	two, other := kiln(1, 1, 1, 2, 3, 100, 200), kiln(1, 1, 2, 1, 1, 5, 5)
	ten := set(2, 1, 1, 0, 1, 10, 3)
	lists := [][]api.Event{
		{}, {two}, {two, other}, {two, fall(1, 1, 1, 1, 2, 0, 0), fall(1, 1, 1, 0, 0, 3, 3)}, {two, ten, set(2, 1, 1, 0, 1, 13, 1), set(2, 1, 1, 2, 1, 1, 9)},
		{two, other, ten, set(2, 1, 2, 0, 1, 13, 40)}, {two, drawn(2, 1, 1), ring(2, 1, 1, 2, 5, 6), fall(3, 1, 1, 0, 0, 1, 1)},
		{two, other, drawn(2, 1, 1), set(2, 1, 2, 0, 1, 1, 1), drawn(2, 1, 2)}, {two, ten, drawn(2, 1, 1)},
		// Readings may come twice, and contradict each other.
		{two, ring(2, 1, 1, 0, 5, 6), ring(2, 1, 1, 0, 5, 6), ring(2, 1, 1, 0, 7, 8), bent(2, 1, 1, 2, 2000), standing(2, 1, 1, 2, 1)},
		// What is broken, sold or a second need not be set, and can be all of these.
		{sold(1, 1, 5, 3), broken(1, 1, 5, 3), second(1, 1, 5, 3), sold(1, 1, 8, 1), sold(1, 1, 1, 4), broken(1, 1, 8, 40), second(1, 1, 4, 1)},
	}
	for _, x := range lists {
		if void, e := trial.Void(listed(x...), 1); len(void) != 0 || e != api.OK {
			t.Error(x, void, e)
		}
	}
}

// What happened counts by its day, and on one day by its entry; what is void is told by entries.
func TestTheOrderOfWhatHappened(t *testing.T) {
	for _, x := range []struct {
		l    []api.Event
		void []api.Entry
	}{
		{listed(set(2, 1, 1, 0, 1, 10, 3), kiln(1, 1, 1, 1, 1, 0, 0)), nil}, {listed(set(2, 1, 1, 0, 1, 10, 3), kiln(2, 1, 1, 1, 1, 0, 0)), []api.Entry{entry(0, 0)}},
		{listed(drawn(3, 1, 1), set(2, 1, 1, 0, 1, 10, 3), kiln(1, 1, 1, 1, 1, 0, 0)), nil},
		{listed(drawn(2, 1, 1), set(2, 1, 1, 0, 1, 10, 3), kiln(1, 1, 1, 1, 1, 0, 0)), []api.Entry{entry(0, 1)}},
		{listed(set(2, 1, 1, 0, 1, 10, 3), drawn(2, 1, 1), kiln(1, 1, 1, 1, 1, 0, 0)), nil},
		{listed(sold(3, 1, 1, 5), sold(2, 1, 5, 5)), []api.Entry{entry(0, 0)}}, {listed(sold(3, 1, 1, 5), sold(3, 1, 5, 5)), []api.Entry{entry(0, 1)}},
		{listed(drawn(4, 1, 2), drawn(1, 1, 1), drawn(3, 1, 3)), []api.Entry{entry(0, 0), entry(0, 1), entry(0, 2)}},
		{[]api.Event{at(0, 7, drawn(4, 1, 2)), at(1, 3, drawn(1, 1, 2)), at(1, 4, drawn(0, 1, 2)), at(2, 0, drawn(2, 1, 2))}, []api.Entry{entry(0, 7), entry(1, 3), entry(1, 4), entry(2, 0)}},
		// Of one day, the house with the lesser number is ahead.
		{[]api.Event{at(0, 9, sold(3, 1, 1, 1)), at(1, 0, sold(3, 1, 1, 1))}, []api.Entry{entry(1, 0)}},
		// The withdrawn kiln is not there; so the other one counts.
		{listed(kiln(1, 1, 1, 1, 1, 0, 0), kiln(1, 1, 1, 2, 2, 0, 0), withdraw(1, 0)), nil},
		// The day that counts is not the one from which it is known.
		{listed(kiln(1, 1, 1, 1, 1, 0, 0), drawn(5, 0, 1), set(4, 1, 1, 0, 1, 1, 1)), nil}, {listed(kiln(1, 1, 1, 1, 1, 0, 0), drawn(4, 1, 1), set(5, 0, 1, 0, 1, 1, 1)), []api.Entry{entry(0, 2)}},
	} {
		if void, e := trial.Void(x.l, 1); !slices.Equal(void, x.void) || e != api.OK {
			t.Error(x, void, e)
		}
	}
}

func TestDates(t *testing.T) {
	for _, x := range []struct {
		l    []api.Event
		want []int
	}{
		{nil, nil}, {history(), []int{1, 2, 3, 4, 6, 9, 12}}, {listed(drawn(1, 7, 1)), []int{7}}, {listed(drawn(1, 100000, 1), drawn(1, 0, 1), drawn(5, 100000, 1), withdraw(3, 2)), []int{0, 3, 100000}},
	} {
		if l, e := trial.Dates(x.l); !slices.Equal(l, x.want) || e != api.OK {
			t.Error(x, l, e)
		}
	}
}

func TestFirings(t *testing.T) {
	l := listed(kiln(9, 3, 50, 1, 1, 0, 0), kiln(1, 2, 99, 1, 1, 0, 0), kiln(5, 1, 2, 1, 1, 0, 0), drawn(1, 1, 7), kiln(5, 4, 2, 1, 1, 0, 0), withdraw(6, 1))
	for known, want := range map[int][]int{0: nil, 1: {2}, 2: {2, 99}, 3: {2, 50, 99}, 4: {2, 50, 99}, 6: {2, 50}} {
		if got, e := trial.Firings(l, known); !slices.Equal(got, want) || e != api.OK {
			t.Error(known, got, e)
		}
	}
	if got, e := trial.Firings(nil, 5); len(got) != 0 || e != api.OK {
		t.Error(got, e)
	}
}

func TestBatch(t *testing.T) {
	l := append(history(), at(0, 7, fall(5, 10, 1, 0, 1, 7, 8)), at(0, 8, drawn(9, 9, 1)))
	even := api.Kiln{Falls: [][]api.Range{{span(100, 200), span(100, 200)}}}
	first, later := history()[2].Reading, history()[5].Reading
	for known, want := range map[int]api.Batch{
		1:  {Id: 1, Drawn: -1, Firing: api.Firing{Kiln: even}},
		3:  {Id: 1, Drawn: -1, Firing: api.Firing{Kiln: even, Readings: []api.Reading{first}}},
		4:  {Id: 1, Drawn: 4, Firing: api.Firing{Kiln: even, Readings: []api.Reading{first}}},
		9:  {Id: 1, Drawn: 4, Firing: api.Firing{Kiln: even, Readings: []api.Reading{first, later}}},
		12: {Id: 1, Drawn: 4, Firing: api.Firing{Kiln: api.Kiln{Falls: [][]api.Range{{span(100, 200), span(7, 8)}}}, Readings: []api.Reading{later}}},
	} {
		if b, e := trial.Batch(l, 1, known); !isSameBatch(b, want) || e != api.OK {
			t.Error(known, b, e)
		}
	}
	// Readings come in the order of their days, and the last fall counts.
	l = listed(ring(9, 1, 5, 0, 3, 4), ring(8, 1, 5, 1, 5, 6), fall(4, 1, 5, 1, 2, 1, 1), fall(3, 1, 5, 1, 2, 2, 2), ring(8, 1, 5, 2, 7, 8), kiln(0, 1, 5, 2, 3, 30, 40))
	want := api.Batch{Id: 5, Drawn: -1, Firing: api.Firing{
		Kiln:     api.Kiln{Falls: [][]api.Range{{span(30, 40), span(30, 40), span(30, 40)}, {span(30, 40), span(30, 40), span(1, 1)}}},
		Readings: []api.Reading{l[1].Reading, l[4].Reading, l[0].Reading},
	}}
	if b, e := trial.Batch(l, 5, 1); !isSameBatch(b, want) || e != api.OK {
		t.Error(b, e)
	}
	// Of two kilns of one firing the first one is kept.
	l = listed(kiln(1, 1, 99, 6, 24, 1, 2), kiln(2, 1, 99, 1, 1, 5, 5), drawn(0, 1, 99), drawn(7, 1, 99))
	if b, e := trial.Batch(l, 99, 1); b.Id != 99 || b.Drawn != 7 || len(b.Firing.Kiln.Falls) != 6 || heat.Places(b.Firing.Kiln) != 24 || e != api.OK {
		t.Error(b, e)
	}
}

func TestNoBatch(t *testing.T) {
	for _, x := range []struct{ firing, known int }{{1, 0}, {2, 5}, {99, 12}} {
		if b, e := trial.Batch(history(), x.firing, x.known); !isNoBatch(b) || e != api.ErrBatch {
			t.Error(x, b, e)
		}
		if r, e := trial.Heat(history(), x.firing, 0, x.known); r != (api.Range{}) || e != api.ErrBatch {
			t.Error(x, r, e)
		}
		if l, e := trial.Pieces(history(), x.firing, x.known); len(l) != 0 || e != api.ErrBatch {
			t.Error(x, l, e)
		}
	}
}

func TestHeat(t *testing.T) {
	for _, x := range []struct {
		place, known int
		want         api.Range
	}{
		{0, 1, span(-200, 2900)}, {0, 2, span(-200, 2900)}, {0, 3, span(1010, 1020)}, {0, 9, span(1010, 1015)}, {0, 12, span(900, 1015)}, {1, 3, span(910, 1120)}, {1, 12, span(800, 1115)},
	} {
		if r, e := trial.Heat(history(), 1, x.place, x.known); r != x.want || e != api.OK {
			t.Error(x, r, e)
		}
	}
	for _, place := range wrongNumbers(0, 1) {
		if r, e := trial.Heat(history(), 1, place, 3); r != (api.Range{}) || e != api.ErrPlace {
			t.Error(place, r, e)
		}
	}
	l := append(history(), at(0, 7, ring(3, 11, 1, 1, 500, 700)))
	for known, want := range map[int]api.Errno{10: api.OK, 11: api.ErrFalse} {
		if r, e := trial.Heat(l, 1, 0, known); (r == api.Range{}) == (want == api.OK) || e != want {
			t.Error(known, r, e)
		}
	}
}

func TestPiece(t *testing.T) {
	l := append(history(), at(0, 7, broken(8, 5, 12, 2)), at(0, 8, second(1, 6, 9, 2)), at(0, 9, withdraw(8, 3)))
	for _, x := range []struct {
		known int
		want  api.Piece
	}{
		{0, api.Piece{No: 10, Broken: -1, Drawn: -1, Sold: -1}}, {1, api.Piece{No: 10, Broken: -1, Drawn: -1, Sold: -1}},
		{2, api.Piece{No: 10, Firing: 1, Body: 1, Broken: -1, Drawn: -1, Sold: -1}}, {4, api.Piece{No: 10, Firing: 1, Body: 1, Broken: -1, Drawn: 4, Sold: -1}},
		{6, api.Piece{No: 10, Firing: 1, Body: 1, Broken: -1, Drawn: 4, Sold: 6, Second: true}}, {6, api.Piece{No: 11, Firing: 1, Body: 1, Broken: -1, Drawn: 4, Sold: 6}},
		{6, api.Piece{No: 12, Firing: 1, Body: 1, Broken: 8, Drawn: 4, Sold: -1}}, {6, api.Piece{No: 13, Broken: 8, Drawn: -1, Sold: -1}},
		{6, api.Piece{No: 9, Broken: -1, Drawn: -1, Sold: -1, Second: true}}, {6, api.Piece{No: 8, Broken: -1, Drawn: -1, Sold: -1}}, {6, api.Piece{No: 14, Broken: -1, Drawn: -1, Sold: -1}},
		{8, api.Piece{No: 12, Firing: 1, Body: 1, Broken: 8, Drawn: -1, Sold: -1}}, {6, api.Piece{No: 9999, Broken: -1, Drawn: -1, Sold: -1}}, {6, api.Piece{No: 1, Broken: -1, Drawn: -1, Sold: -1}},
	} {
		if p, e := trial.Piece(l, x.want.No, x.known); p != x.want || e != api.OK {
			t.Error(x, p, e)
		}
	}
	// A void event does nothing, to none of its pieces.
	l = listed(sold(0, 1, 9960, 40), sold(1, 1, 9959, 2), kiln(0, 1, 99, 1, 24, 0, 0), set(0, 1, 99, 23, 999, 9999, 1), drawn(0, 1, 99), broken(0, 1, 9999, 1), second(0, 1, 9999, 1))
	for _, want := range []api.Piece{{No: 9999, Firing: 99, Place: 23, Body: 999, Second: true}, {No: 9959, Broken: -1, Drawn: -1, Sold: -1}, {No: 9960, Broken: -1, Drawn: -1}} {
		if p, e := trial.Piece(l, want.No, 1); p != want || e != api.OK {
			t.Error(want, p, e)
		}
	}
}

func TestPieces(t *testing.T) {
	l := listed(kiln(0, 0, 1, 1, 3, 0, 0), kiln(0, 0, 2, 1, 1, 0, 0), set(2, 1, 1, 2, 5, 30, 2), set(1, 1, 1, 0, 6, 32, 2), set(3, 2, 2, 0, 5, 1, 3), set(3, 3, 1, 1, 5, 7, 1), set(4, 4, 1, 0, 5, 31, 4), withdraw(5, 2))
	for _, x := range []struct {
		firing, known int
		want          []int
	}{
		{1, 0, nil}, {1, 1, []int{30, 31, 32, 33}}, {1, 2, []int{30, 31, 32, 33}}, {1, 4, []int{7, 30, 31, 32, 33}}, {1, 5, []int{7, 32, 33}}, {2, 1, nil}, {2, 5, []int{1, 2, 3}},
	} {
		if got, e := trial.Pieces(l, x.firing, x.known); !slices.Equal(got, x.want) || e != api.OK {
			t.Error(x, got, e)
		}
	}
}

// checkWorld holds what is known on a day against a world of single pieces.
func checkWorld(t *testing.T, l []api.Event, known int) {
	t.Helper()
	w := worldOf(l, known)
	var stand, firings []int
	for i, x := range l {
		if stands(l, x, known) {
			stand = append(stand, i)
		}
	}
	if got, e := trial.Standing(l, known); !slices.Equal(got, stand) || e != api.OK {
		t.Fatal(l, known, got, stand, e)
	}
	if got, e := trial.Void(l, known); !slices.Equal(got, w.void) || e != api.OK {
		t.Fatal(l, known, got, w.void, e)
	}
	for firing := 1; firing <= 3; firing++ {
		want, err := w.batches[firing], api.OK
		if want.Id == 0 {
			err = api.ErrBatch
		} else {
			firings = append(firings, firing)
		}
		if b, e := trial.Batch(l, firing, known); !isSameBatch(b, want) || e != err {
			t.Fatal(l, known, firing, b, want, e)
		}
		if got, e := trial.Pieces(l, firing, known); !slices.Equal(got, w.pieces(firing)) || e != err {
			t.Fatal(l, known, firing, got, e)
		}
		checkHeats(t, l, firing, known, want.Firing)
	}
	if got, e := trial.Firings(l, known); !slices.Equal(got, firings) || e != api.OK {
		t.Fatal(l, known, got, firings, e)
	}
	for no := 1; no <= lastPiece; no++ {
		if p, e := trial.Piece(l, no, known); p != w.piece(no) || e != api.OK {
			t.Fatal(l, known, p, w.piece(no), e)
		}
	}
}

func checkHeats(t *testing.T, l []api.Event, firing, known int, f api.Firing) {
	t.Helper()
	for place := range 4 {
		want, err := heat.Bound(f, place)
		if err == api.ErrFiring {
			err = api.ErrBatch
		}
		if r, e := trial.Heat(l, firing, place, known); r != want || e != err {
			t.Fatal(l, known, firing, place, r, want, e)
		}
	}
}

func TestWhatIsKnownOfManyLists(t *testing.T) {
	r := rand.New(rand.NewSource(4))
	void := 0
	for range 200 {
		l := someEvents(r, 2, 10)
		for known := range lastDay + 1 {
			checkWorld(t, l, known)
		}
		void += len(worldOf(l, lastDay).void)
	}
	if void < 200 || void > 2000 {
		t.Error("the cases are lopsided", void)
	}
}

// A firing has readings of all events of a list, if it must.
func TestMostReadings(t *testing.T) {
	l := listed(kiln(0, 0, 1, 6, 24, 0, 3000))
	for no := 1; no < 60; no++ {
		l = append(l, at(0, no, bent(1, 1, 1, no%24, no)))
	}
	if b, e := trial.Batch(l, 1, 1); len(b.Firing.Readings) != 59 || e != api.OK {
		t.Error(b, e)
	}
	if void, e := trial.Void(l, 1); len(void) != 0 || e != api.OK {
		t.Error(void, e)
	}
}

// A batch shares no memory with the events, with another batch, or within itself.
func TestBatchesAreNew(t *testing.T) {
	l := listed(kiln(0, 0, 1, 2, 2, 5, 6), ring(1, 1, 1, 0, 7, 8), ring(1, 1, 1, 1, 7, 8))
	kept := slices.Clone(l)
	want, _ := trial.Batch(l, 1, 1)
	b, _ := trial.Batch(l, 1, 1)
	b.Firing.Kiln.Falls[0] = append(b.Firing.Kiln.Falls[0], span(9, 9))
	b.Firing.Kiln.Falls[0][1] = span(8, 8)
	if b.Firing.Kiln.Falls[1][1] != span(5, 6) || b.Firing.Kiln.Falls[1][0] != span(5, 6) {
		t.Error(b)
	}
	clear(b.Firing.Readings)
	clear(b.Firing.Kiln.Falls[1])
	if again, e := trial.Batch(l, 1, 1); !isSameBatch(again, want) || !slices.Equal(l, kept) || e != api.OK {
		t.Error(again, want, l)
	}
}
