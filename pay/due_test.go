package pay_test

import (
	"math/rand"
	"testing"

	"potbank/api"
	"potbank/pay"
)

func TestInForce(t *testing.T) {
	s := api.Shop{Customs: []api.Custom{
		custom(1, 0, 1, 1, 1), custom(1, 5, 2, 2, 2), custom(1, 100000, 3, 3, 3), custom(3, 4, 1, 2, 3), custom(3, 9, 3, 2, 1), custom(9, 7, 1, 1, 7),
	}}
	for _, x := range []struct{ trade, day, want int }{
		{1, 0, 0}, {1, 4, 0}, {1, 5, 1}, {1, 6, 1}, {1, 99999, 1}, {1, 100000, 2}, {2, 5, -1}, {2, 100000, -1}, {3, 0, -1}, {3, 3, -1}, {3, 4, 3}, {3, 8, 3},
		{3, 9, 4}, {3, 100000, 4}, {4, 9, -1}, {8, 100000, -1}, {9, 6, -1}, {9, 7, 5},
	} {
		c, e := pay.InForce(s, x.trade, x.day)
		if x.want < 0 && (c != (api.Custom{}) || e != api.ErrForce) || x.want >= 0 && (c != s.Customs[max(x.want, 0)] || e != api.OK) {
			t.Error(x, c, e)
		}
	}
	if c, e := pay.InForce(api.Shop{}, 1, 5); c != (api.Custom{}) || e != api.ErrForce {
		t.Error(c, e)
	}
	if c, e := pay.InForce(shopS(), 2, 5); c != (api.Custom{}) || e != api.ErrForce {
		t.Error("of the chapter", c, e)
	}
}

// fates returns a shop whose pieces 1 to 5 are Open, Good, Second, Waste and Broken from the day 5 on, ahead of which all are Open.
func fates(c api.Custom, grade int) api.Shop {
	s := shopS()
	s.Events = []api.Event{
		event(0, api.EvKiln, 1, 1, "1 1 2 0 3000"), event(1, api.EvSet, 2, 2, "1 0 1 2 2"), event(2, api.EvSet, 2, 2, "1 1 1 4 1"), event(3, api.EvSet, 2, 2, "1 0 1 5 1"),
		event(4, api.EvRead, 3, 5, "1 0 3 0 1010 1020"), event(5, api.EvRead, 3, 5, "1 1 3 0 900 910"), event(6, api.EvDrawn, 4, 5, "1"),
		event(7, api.EvSecond, 5, 5, "3 1"), event(8, api.EvBroken, 3, 5, "5 1"),
	}
	s.Customs = []api.Custom{c}
	s.Works = []api.Work{work(50, 1, 5, 2, 1, grade, 1, 1, 0)}
	return s
}

func TestWhoBears(t *testing.T) {
	const rate = 999
	for basis, worth := range [][5]int{api.ByPiece: {rate, rate, rate, rate, rate}, api.ByHand: {rate, rate, rate, rate, 0}, api.ByOven: {0, rate, 332, 0, 0}} {
		for bears := 1; bears <= 3 && basis > 0; bears++ {
			c := custom(1, 0, basis, bears, 333)
			c.Rates[3] = rate
			s := fates(c, 3)
			for outcome := range 5 {
				maker, fireman := worth[outcome], 0
				if outcome == api.Waste && bears == api.BearsMaker {
					maker = 0
				}
				if outcome == api.Waste && bears == api.BearsFireman {
					fireman = maker
				}
				if n, e := pay.Outcome(s, 1+outcome, 5); n != outcome || e != api.OK {
					t.Error(outcome, n, e)
				}
				if m, f, e := pay.Due(s, 1+outcome, 5); m != maker || f != fireman || e != api.OK {
					t.Error(basis, bears, outcome, m, f, e)
				}
				if m, f, e := pay.Due(s, 1+outcome, 4); m != worth[api.Open] || f != 0 || e != api.OK {
					t.Error("ahead of what became of it", basis, bears, outcome, m, f, e)
				}
			}
		}
	}
}

func TestRatesOfGrades(t *testing.T) {
	for basis := 1; basis <= 3; basis++ {
		c := api.Custom{Trade: 1, Basis: basis, Bears: 1, Rates: [5]int{7, 0, 100000, 12, 1999}, Second: 1000}
		for grade := range 5 {
			if m, f, e := pay.Due(fates(c, grade), 2, 5); m != c.Rates[grade] || f != 0 || e != api.OK {
				t.Error(basis, grade, m, f, e)
			}
		}
	}
}

func TestParts(t *testing.T) {
	for _, x := range []struct{ rate, second, want int }{
		{100000, 1000, 100000}, {100000, 999, 99900}, {999, 1, 0}, {1000, 1, 1}, {1999, 1, 1}, {3, 333, 0}, {3, 334, 1}, {100000, 0, 0}, {7, 1000, 7}, {0, 500, 0}, {5, 500, 2},
	} {
		c := custom(1, 0, api.ByOven, 1, x.second)
		c.Rates[0] = x.rate
		if m, f, e := pay.Due(fates(c, 0), 3, 5); m != x.want || f != 0 || e != api.OK {
			t.Error(x, m, f, e)
		}
	}
}

// It is the day of the work that counts, not the one on which it got known, nor the one that is asked of.
func TestTheCustomOfTheDayOfTheWork(t *testing.T) {
	s := fates(custom(1, 0, api.ByPiece, 1, 0), 1)
	s.Customs = append(s.Customs, custom(1, 5, api.ByPiece, 1, 0), custom(2, 0, api.ByPiece, 1, 0))
	s.Customs[1].Rates[1], s.Customs[2].Rates[1] = 155, 200
	for _, x := range []struct{ trade, day, want int }{{1, 0, 100}, {1, 4, 100}, {1, 5, 155}, {1, 9, 155}, {1, 100000, 155}, {2, 4, 200}, {2, 5, 200}, {3, 5, 0}} {
		s.Works[0].Trade, s.Works[0].Day = x.trade, x.day
		for known := 1; known < 12; known++ {
			if m, f, e := pay.Due(s, 2, known); m != x.want || f != 0 || e != api.OK {
				t.Error(x, known, m, f, e)
			}
		}
	}
}

// By no custom nothing is paid, whatever became of a piece.
func TestNoCustom(t *testing.T) {
	for _, customs := range [][]api.Custom{nil, {custom(2, 0, 1, 2, 1000)}, {custom(1, 2, 1, 2, 1000)}} {
		s := fates(api.Custom{}, 3)
		s.Customs = customs
		for piece := 1; piece <= 5; piece++ {
			if m, f, e := pay.Due(s, piece, 9); m != 0 || f != 0 || e != api.OK {
				t.Error(customs, piece, m, f, e)
			}
		}
		if l, e := pay.Posts(s, 9); len(l) != 0 || e != api.OK {
			t.Error(customs, l, e)
		}
	}
}

// isBorne reports whether a due is such as P8.4 has it.
func isBorne(c api.Custom, grade, outcome, maker, fireman int) bool {
	switch {
	case outcome == api.Good:
		return maker == c.Rates[grade] && fireman == 0
	case outcome != api.Waste || c.Bears == api.BearsMaster:
		return maker >= 0 && fireman == 0
	case c.Bears == api.BearsMaker:
		return maker == 0 && fireman == 0
	}
	return maker >= 0 && fireman == maker
}

func TestWhoBearsInAnyShop(t *testing.T) {
	r := rand.New(rand.NewSource(1))
	var seen [5]int
	for range 300 {
		s := someShop(r)
		for known := 4; known <= lastDay; known++ {
			pieces, _ := pay.Made(s, known)
			for _, piece := range pieces {
				own, _ := workOf(s, piece, known)
				c, e := pay.InForce(s, own.Trade, own.Day)
				if e != api.OK {
					continue
				}
				outcome, e := pay.Outcome(s, piece, known)
				maker, fireman, f := pay.Due(s, piece, known)
				if e != api.OK || f != api.OK || !isBorne(c, own.Grade, outcome, maker, fireman) {
					t.Fatal(s, piece, known, c, outcome, maker, fireman, e, f)
				}
				seen[outcome]++
			}
		}
	}
	for outcome, many := range seen {
		if many < 100 {
			t.Error("the cases are lopsided", outcome, seen)
		}
	}
}
