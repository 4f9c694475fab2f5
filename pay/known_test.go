package pay_test

import (
	"math/rand"
	"slices"
	"testing"

	"potbank/api"
	"potbank/pay"
)

func TestMade(t *testing.T) {
	s := api.Shop{Works: []api.Work{
		work(3, 20, 2, 1, 1, 1, 1, 5, 0), work(4, 10, 3, 1, 1, 1, 1, 2, 0), work(7, 12, 2, 1, 1, 1, 9, 4, 6), work(9, 9999, 1, 1, 1, 1, 1, 0, 3), work(11, 1, 1, 1, 1, 1, 1, 7, 8),
	}}
	for known, want := range [][]int{
		{9999}, {9999}, {10, 11, 12, 9999}, {10, 11, 12}, {10, 11, 12, 13}, {10, 11, 12, 13, 20, 21}, {10, 11, 12, 20, 21}, {1, 10, 11, 12, 20, 21}, {10, 11, 12, 20, 21},
	} {
		if l, e := pay.Made(s, known); !slices.Equal(l, want) || e != api.OK {
			t.Error(known, l, e)
		}
	}
	if l, e := pay.Made(s, 100000); !slices.Equal(l, []int{10, 11, 12, 20, 21}) || e != api.OK {
		t.Error(l, e)
	}
	if l, e := pay.Made(shopS(), 0); len(l) != 0 || e != api.OK {
		t.Error(l, e)
	}
}

// The work of a piece is the one with the least source that counts, whatever day it is of, or got known on.
func TestTheWorkOfAPiece(t *testing.T) {
	s := api.Shop{
		Customs: []api.Custom{custom(1, 0, api.ByPiece, 1, 0), custom(2, 0, api.ByPiece, 1, 0)},
		Works:   []api.Work{work(3, 10, 2, 1, 1, 1, 9, 5, 7), work(4, 9, 2, 2, 2, 2, 1, 2, 0), work(8, 10, 1, 3, 1, 3, 1, 1, 0)},
	}
	s.Customs[1].Rates[2] = 222
	for _, x := range []struct{ piece, known, maker, due int }{
		{10, 1, 3, 300}, {10, 2, 2, 222}, {10, 4, 2, 222}, {10, 5, 1, 100}, {10, 6, 1, 100}, {10, 7, 2, 222}, {10, 9, 2, 222}, {9, 5, 2, 222}, {11, 6, 1, 100},
	} {
		n, e := pay.Maker(s, x.piece, x.known)
		m, f, g := pay.Due(s, x.piece, x.known)
		if n != x.maker || e != api.OK || m != x.due || f != 0 || g != api.OK {
			t.Error(x, n, e, m, f, g)
		}
	}
	for _, x := range [][2]int{{10, 0}, {9, 1}, {11, 4}, {11, 7}, {12, 6}, {8, 9}} {
		if n, e := pay.Maker(s, x[0], x[1]); n != 0 || e != api.ErrUnmade {
			t.Error(x, n, e)
		}
	}
}

func TestMaker(t *testing.T) {
	s := shopS()
	s.Claims = []api.Claim{
		claim(2, 10, 2, 3, 5, 9), claim(4, 11, 2, 4, 5, 0), claim(6, 11, 1, 5, 4, 0), claim(8, 10, 1, 6, 7, 8), claim(9, 13, 1, 7, 1, 0), claim(11, 12, 1, 8, 11, 12), claim(50, 12, 1, 9, 11, 13),
	}
	for piece, makers := range map[int][]int{ // as known on 1, 2 and so on
		10: {2, 2, 2, 2, 3, 3, 6, 3, 2, 2, 2, 2, 2, 2}, 11: {2, 2, 2, 5, 4, 4, 4, 4, 4, 4, 4, 4, 4, 4}, 12: {2, 2, 2, 2, 4, 4, 4, 4, 4, 4, 9, 9, 4, 4},
	} {
		for i, maker := range makers {
			if n, e := pay.Maker(s, piece, 1+i); n != maker || e != api.OK {
				t.Error(piece, 1+i, n, e)
			}
		}
	}
	// A claim makes nothing.
	for known := range 12 {
		if n, e := pay.Maker(s, 13, known); n != 0 || e != api.ErrUnmade {
			t.Error(known, n, e)
		}
	}
}

// drawnOn returns the shop of the examples, drawn on a day, with another event in the place of what was sold.
func drawnOn(day, kind, when int, text string) api.Shop {
	s := shopS()
	s.Events[3].Day = day
	s.Events[4] = event(4, kind, when, 4, text)
	return s
}

func TestOutcome(t *testing.T) {
	lacks, clashes, notSet, wastes := shopS(), shopS(), shopS(), shopS()
	lacks.Wares.Bodies[0].Id = 2
	clashes.Events[4] = event(4, api.EvRead, 3, 4, "1 0 3 0 1030 1040")
	notSet.Events[1].First = 20
	wastes.Events[2] = event(2, api.EvRead, 3, 3, "1 0 3 0 900 990")
	for i, x := range []struct {
		s              api.Shop
		piece, known   int
		want           int
		maker, fireman int
	}{
		{shopS(), 10, 1, api.Open, 0, 0}, {shopS(), 10, 3, api.Open, 0, 0}, {shopS(), 10, 4, api.Good, 200, 0}, {shopS(), 12, 11, api.Good, 200, 0}, {shopS(), 10, 12, api.Open, 0, 0},
		{lacks, 10, 4, api.Open, 0, 0}, {clashes, 10, 4, api.Open, 0, 0}, {notSet, 10, 4, api.Open, 0, 0}, {wastes, 10, 4, api.Waste, 0, 0}, {wastes, 10, 3, api.Open, 0, 0},
		// Broken ahead of the day on which it was drawn, on it, and behind it.
		{drawnOn(4, api.EvBroken, 3, "10 1"), 10, 4, api.Broken, 0, 0}, {drawnOn(4, api.EvBroken, 4, "10 1"), 10, 4, api.Good, 200, 0},
		{drawnOn(4, api.EvBroken, 5, "10 1"), 10, 4, api.Good, 200, 0}, {drawnOn(4, api.EvBroken, 0, "10 1"), 10, 4, api.Broken, 0, 0},
		{drawnOn(4, api.EvBroken, 3, "10 1"), 11, 4, api.Good, 200, 0}, {drawnOn(4, api.EvBroken, 3, "10 1"), 10, 3, api.Open, 0, 0},
		{drawnOn(0, api.EvBroken, 0, "10 1"), 10, 4, api.Broken, 0, 0}, // drawn ahead of the kiln is void
		{drawnOn(4, api.EvSecond, 0, "10 2"), 11, 4, api.Second, 100, 0}, {drawnOn(4, api.EvSecond, 9, "10 2"), 11, 4, api.Second, 100, 0},
		{drawnOn(4, api.EvSecond, 9, "10 2"), 12, 4, api.Good, 200, 0}, {drawnOn(4, api.EvSecond, 9, "10 2"), 11, 3, api.Open, 0, 0},
		{drawnOn(4, api.EvSecond, 9, "10 2"), 11, 12, api.Open, 0, 0},
	} {
		if n, e := pay.Outcome(x.s, x.piece, x.known); n != x.want || e != api.OK {
			t.Error(i, n, e)
		}
		if m, f, e := pay.Due(x.s, x.piece, x.known); m != x.maker || f != x.fireman || e != api.OK {
			t.Error(i, m, f, e)
		}
	}
}

// What is not drawn is broken by any day; a piece that is drawn and not set there is not.
func TestBrokenAndNotDrawn(t *testing.T) {
	s := shopS()
	s.Events = []api.Event{event(0, api.EvBroken, 100000, 1, "11 1"), event(1, api.EvBroken, 0, 1, "12 1")}
	for piece, want := range map[int]int{10: api.Open, 11: api.Broken, 12: api.Broken} {
		if n, e := pay.Outcome(s, piece, 1); n != want || e != api.OK {
			t.Error(piece, n, e)
		}
	}
}

// With ByPiece a piece of a heat that is too low is paid, and the fireman bears it.
func TestTheExampleOfWaste(t *testing.T) {
	s := shopS()
	s.Customs[0].Basis = api.ByPiece
	s.Events[2] = event(2, api.EvRead, 3, 3, "1 0 3 0 900 990")
	if n, e := pay.Outcome(s, 10, 4); n != api.Waste || e != api.OK {
		t.Error(n, e)
	}
	if m, f, e := pay.Due(s, 10, 4); m != 200 || f != 200 || e != api.OK {
		t.Error(m, f, e)
	}
}

func TestKnownAgainstTheDefinitions(t *testing.T) {
	r := rand.New(rand.NewSource(2))
	for range 120 {
		s := someShop(r)
		for known := range lastDay + 2 {
			var all []int
			for piece := 1; piece <= lastPiece+1; piece++ {
				want, is := madeOf(s, piece, known)
				e := api.ErrUnmade
				if is {
					all = append(all, piece)
					e = api.OK
				}
				maker, e1 := pay.Maker(s, piece, known)
				outcome, e2 := pay.Outcome(s, piece, known)
				m, f, e3 := pay.Due(s, piece, known)
				if maker != want.maker || outcome != want.outcome || m != want.isPaid || f != want.isFined || e1 != e || e2 != e || e3 != e {
					t.Fatal(s, piece, known, want, maker, outcome, m, f, e1, e2, e3)
				}
			}
			if l, e := pay.Made(s, known); !slices.Equal(l, all) || e != api.OK {
				t.Fatal(s, known, l, e)
			}
		}
	}
}

// known is what a shop tells of a piece.
type known struct {
	maker, outcome, isPaid, isFined int
	e                               api.Errno
}

func ask(s api.Shop, piece, day int) known {
	maker, e := pay.Maker(s, piece, day)
	outcome, _ := pay.Outcome(s, piece, day)
	m, f, _ := pay.Due(s, piece, day)
	return known{maker, outcome, m, f, e}
}

// The same maker, work and outcome bring the same due.
func TestTheSameBringsTheSame(t *testing.T) {
	type cause struct{ piece, source, maker, outcome int }
	r := rand.New(rand.NewSource(3))
	again := 0
	for range 100 {
		s := someShop(r)
		dues := map[cause][2]int{}
		for day := range lastDay + 1 {
			for piece := 1; piece <= lastPiece; piece++ {
				own, _ := workOf(s, piece, day)
				k := ask(s, piece, day)
				c := cause{piece, own.Source, k.maker, k.outcome}
				due, ok := dues[c]
				if ok && due != [2]int{k.isPaid, k.isFined} {
					t.Fatal(s, c, due, k)
				}
				dues[c] = [2]int{k.isPaid, k.isFined}
				if ok && k.e == api.OK && k.outcome != api.Open {
					again++
				}
			}
		}
	}
	if again < 500 {
		t.Error("the cases are lopsided", again)
	}
}

// upTo returns what was known of a shop on a day.
func upTo(s api.Shop, day int) api.Shop {
	s = copied(s)
	s.Events = slices.DeleteFunc(s.Events, func(x api.Event) bool { return x.Known > day })
	s.Works = slices.DeleteFunc(s.Works, func(x api.Work) bool { return x.Known > day })
	s.Claims = slices.DeleteFunc(s.Claims, func(c api.Claim) bool { return c.Known > day })
	for i := range s.Works {
		if s.Works[i].Until > day {
			s.Works[i].Until = 0
		}
	}
	for i := range s.Claims {
		if s.Claims[i].Until > day {
			s.Claims[i].Until = 0
		}
	}
	return s
}

func TestWhatIsKnownLaterChangesNothing(t *testing.T) {
	r := rand.New(rand.NewSource(4))
	for range 25 {
		s := someShop(r)
		for day := range lastDay {
			then := upTo(s, day)
			for d := range day + 1 {
				for piece := 1; piece <= lastPiece; piece++ {
					if x, y := ask(s, piece, d), ask(then, piece, d); x != y {
						t.Fatal(s, day, d, piece, x, y)
					}
				}
			}
			l, _ := pay.Posts(s, day)
			m, _ := pay.Posts(then, 100000)
			if !slices.Equal(l, m) {
				t.Fatal(s, day, l, m)
			}
		}
	}
}

// Pieces that stand beside each other in a list of events need not be alike, up to the last one that there may be.
func TestTheLastPieces(t *testing.T) {
	s := shopS()
	s.Events[1] = event(1, api.EvSet, 2, 2, "1 0 1 9960 38")
	s.Events[4] = event(4, api.EvSecond, 6, 6, "9997 3")
	s.Works = []api.Work{work(1, 9960, 40, 2, 1, 2, 1, 1, 0), work(2, 1, 1, 2, 1, 2, 1, 1, 0)}
	for piece, want := range map[int]int{1: api.Open, 9960: api.Good, 9996: api.Good, 9997: api.Second, 9998: api.Open, 9999: api.Open} {
		if n, e := pay.Outcome(s, piece, 6); n != want || e != api.OK {
			t.Error(piece, n, e)
		}
	}
	if l, e := pay.Share(s, 2, 6); !slices.Equal(l, []int{3, 37, 1, 0, 0}) || e != api.OK {
		t.Error(l, e)
	}
}
