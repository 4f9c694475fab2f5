package pay_test

import (
	"math/rand"
	"slices"
	"testing"

	"potbank/api"
	"potbank/pay"
	"potbank/trial"
)

func TestUnsettled(t *testing.T) {
	for _, x := range []struct {
		s     api.Shop
		known int
		want  []int
	}{
		{shopS(), 0, nil}, {shopS(), 1, []int{10, 11, 12}}, {shopS(), 3, []int{10, 11, 12}}, {shopS(), 4, nil}, {shopS(), 11, nil}, {shopS(), 12, []int{10, 11, 12}},
		{fates(custom(1, 0, 1, 1, 0), 1), 4, []int{1, 2, 3, 4, 5}}, {fates(custom(1, 0, 1, 1, 0), 1), 5, []int{1}}, {claimedS(), 12, []int{10, 11, 12}}, {api.Shop{}, 5, nil},
	} {
		if l, e := pay.Unsettled(x.s, x.known); !slices.Equal(l, x.want) || e != api.OK {
			t.Error(x.known, l, e)
		}
	}
}

func TestShare(t *testing.T) {
	all := fates(custom(1, 0, 1, 1, 0), 1)
	all.Works = append(all.Works, work(51, 5, 3, 4, 1, 1, 1, 6, 0)) // the first work has 5
	all.Claims = []api.Claim{claim(1, 2, 2, 9, 7, 8)}
	for _, x := range []struct {
		s            api.Shop
		maker, known int
		want         []int
	}{
		{shopS(), 2, 0, []int{0, 0, 0, 0, 0}}, {shopS(), 2, 1, []int{3, 0, 0, 0, 0}}, {shopS(), 2, 5, []int{0, 3, 0, 0, 0}}, {shopS(), 1, 5, []int{0, 0, 0, 0, 0}},
		{shopS(), 2, 12, []int{3, 0, 0, 0, 0}}, {claimedS(), 2, 7, []int{0, 2, 0, 0, 0}}, {claimedS(), 5, 7, []int{0, 1, 0, 0, 0}}, {claimedS(), 5, 6, []int{0, 0, 0, 0, 0}},
		{all, 2, 5, []int{1, 1, 1, 1, 1}}, {all, 2, 4, []int{5, 0, 0, 0, 0}}, {all, 4, 6, []int{2, 0, 0, 0, 0}}, {all, 4, 5, []int{0, 0, 0, 0, 0}},
		{all, 2, 7, []int{1, 0, 0, 1, 1}}, {all, 9, 7, []int{0, 1, 1, 0, 0}}, {all, 2, 8, []int{1, 1, 1, 1, 1}}, {all, 9, 8, []int{0, 0, 0, 0, 0}}, {api.Shop{}, 9, 100000, []int{0, 0, 0, 0, 0}},
	} {
		if l, e := pay.Share(x.s, x.maker, x.known); !slices.Equal(l, x.want) || e != api.OK {
			t.Error(x.maker, x.known, l, e)
		}
	}
}

func TestMoved(t *testing.T) {
	paid := claimedS()
	paid.Customs = nil
	two := shopS()
	two.Works = append(two.Works, work(51, 11, 3, 2, 1, 2, 1, 1, 0))
	both := claimedS()
	both.Claims[0].Source, both.Works[0].Source = 3, 4 // of the first Ring, and of what was drawn
	for i, x := range []struct {
		s             api.Shop
		source, known int
		want          []int
	}{
		{shopS(), 3, 5, []int{10, 11, 12}}, {shopS(), 3, 3, nil}, {shopS(), 3, 2, nil}, {shopS(), 3, 12, nil}, {shopS(), 7, 12, []int{10, 11, 12}}, {shopS(), 7, 11, nil},
		{shopS(), 6, 9, nil}, {shopS(), 5, 9, nil}, {shopS(), 4, 9, []int{10, 11, 12}}, {shopS(), 1, 9, []int{10, 11, 12}}, {shopS(), 2, 4, []int{10, 11, 12}}, {shopS(), 2, 3, nil},
		{shopS(), 50, 9, []int{10, 11, 12}}, {shopS(), 50, 1, []int{10, 11, 12}}, {shopS(), 50, 0, nil},
		{claimedS(), 60, 6, nil}, {claimedS(), 60, 7, []int{11}}, {claimedS(), 60, 12, []int{11}}, {claimedS(), 3, 7, []int{10, 11, 12}}, {claimedS(), 50, 7, []int{10, 11, 12}},
		// What is due is nothing, but whose it is, or what became of it, is another one.
		{paid, 60, 7, []int{11}}, {paid, 3, 7, []int{10, 11, 12}}, {paid, 50, 7, []int{10, 11, 12}},
		// Another work takes the place of the one without which it is asked.
		{two, 50, 5, []int{10}}, {two, 51, 5, []int{13}},
		{both, 3, 7, []int{10, 11, 12}}, {both, 3, 12, []int{11}}, {both, 4, 1, []int{10, 11, 12}}, {both, 4, 4, []int{10, 11, 12}},
	} {
		if l, e := pay.Moved(x.s, x.source, x.known); !slices.Equal(l, x.want) || e != api.OK {
			t.Error(i, l, e)
		}
	}
}

// A due that changes by the work alone, while the maker and what became of the piece stay.
func TestMovedByTheDueAlone(t *testing.T) {
	s := shopS()
	s.Works = append(s.Works, work(60, 10, 3, 2, 1, 3, 1, 1, 0))
	if l, e := pay.Moved(s, 50, 4); !slices.Equal(l, []int{10, 11, 12}) || e != api.OK {
		t.Error(l, e)
	}
	if l, e := pay.Moved(s, 50, 3); len(l) != 0 || e != api.OK {
		t.Error("by the oven nothing is due yet", l, e)
	}
	if l, e := pay.Moved(s, 60, 4); len(l) != 0 || e != api.OK {
		t.Error("this work is the one of no piece", l, e)
	}
}

func TestMovedOfNothing(t *testing.T) {
	for _, source := range append(wrongNumbers(1, 60000), 0, -1, 8, 49, 51, 60, 10001, 10003, 50003, 99999, 60000) {
		if l, e := pay.Moved(shopS(), source, 5); len(l) != 0 || e != api.ErrNone {
			t.Error(source, l, e)
		}
	}
	for _, s := range []api.Shop{{}, fullShop(12, 0, 0)} {
		if l, e := pay.Moved(s, 1, 5); len(l) != 0 || e != api.ErrNone {
			t.Error(l, e)
		}
	}
}

// Events of other houses have sources of their own.
func TestMovedOfOtherHouses(t *testing.T) {
	s := shopS()
	for i := range s.Events {
		s.Events[i].At.House = 2
	}
	s.Events[2].Reading.Source, s.Events[5].Reading.Source, s.Events[6].Of.House = 20003, 20006, 2
	if l, e := pay.Moved(s, 20003, 5); !slices.Equal(l, []int{10, 11, 12}) || e != api.OK {
		t.Error(l, e)
	}
	if l, e := pay.Moved(s, 3, 5); len(l) != 0 || e != api.ErrNone {
		t.Error(l, e)
	}
}

// movedOf lists the pieces of which a shop tells something else than another one.
func movedOf(s, rest api.Shop, known int) []int {
	var l []int
	for piece := 1; piece <= lastPiece; piece++ {
		x, is := madeOf(s, piece, known)
		y, was := madeOf(rest, piece, known)
		x.work, y.work = api.Work{}, api.Work{}
		if is != was || x != y {
			l = append(l, piece)
		}
	}
	return l
}

func TestSharesAgainstTheDefinitions(t *testing.T) {
	r := rand.New(rand.NewSource(7))
	open := 0
	for range 100 {
		s := someShop(r)
		known := r.Intn(lastDay + 2)
		var shares [10][5]int
		var unsettled []int
		for piece := 1; piece <= lastPiece; piece++ {
			x, is := madeOf(s, piece, known)
			if is {
				shares[x.maker][x.outcome]++
			}
			if is && x.outcome == api.Open {
				unsettled = append(unsettled, piece)
			}
		}
		if l, e := pay.Unsettled(s, known); !slices.Equal(l, unsettled) || e != api.OK {
			t.Fatal(s, known, l, e)
		}
		all := 0
		for maker := 1; maker <= 9; maker++ {
			l, e := pay.Share(s, maker, known)
			if !slices.Equal(l, shares[maker][:]) || e != api.OK {
				t.Fatal(s, maker, known, l, e)
			}
			for _, n := range l {
				all += n
			}
		}
		if l, _ := pay.Made(s, known); len(l) != all {
			t.Fatal(s, known, l, all)
		}
		open += len(unsettled)
	}
	if open < 100 {
		t.Error("the cases are lopsided", open)
	}
}

// isSettled reports whether the verdicts on all pieces that are made and drawn are yes or no.
func isSettled(s api.Shop, pieces []int, known int) bool {
	for _, piece := range pieces {
		p, _ := trial.Piece(s.Events, piece, known)
		n, e := trial.Verdict(s.Wares, s.Events, piece, known)
		if p.Drawn >= 0 && (e != api.OK || n == api.Maybe) {
			return false
		}
	}
	return true
}

func TestSettled(t *testing.T) {
	r := rand.New(rand.NewSource(8))
	seen, drawn := 0, 0
	for range 600 {
		s := someShop(r)
		known := 4 + r.Intn(lastDay)
		pieces, _ := pay.Made(s, known)
		if !isSettled(s, pieces, known) {
			continue
		}
		unsettled, e := pay.Unsettled(s, known)
		if e != api.OK {
			t.Fatal(s, e)
		}
		seen += len(unsettled)
		for _, piece := range pieces {
			p, _ := trial.Piece(s.Events, piece, known)
			if p.Drawn >= 0 && slices.Contains(unsettled, piece) {
				t.Fatal(s, known, piece, p)
			}
			if p.Drawn >= 0 {
				drawn++
			}
		}
	}
	if seen < 100 || drawn < 100 {
		t.Error("the cases are lopsided", seen, drawn)
	}
}

// What is in Moved is what the definition says, and a piece that is not keeps its maker and its due.
func TestMovedAgainstTheDefinitions(t *testing.T) {
	r := rand.New(rand.NewSource(9))
	seen, many := 0, 0
	for range 50 {
		s := someShop(r)
		for source := 1; source < 31; source++ {
			known := r.Intn(lastDay + 2)
			rest := without(s, source)
			l, e := pay.Moved(s, source, known)
			if isSame(s, rest) {
				if len(l) != 0 || e != api.ErrNone {
					t.Fatal(s, source, l, e)
				}
				continue
			}
			if want := movedOf(s, rest, known); !slices.Equal(l, want) || e != api.OK {
				t.Fatal(s, source, known, l, want, e)
			}
			for piece := 1; piece <= lastPiece; piece++ {
				if ask(s, piece, known) != ask(rest, piece, known) && !slices.Contains(l, piece) {
					t.Fatal(s, source, known, piece)
				}
			}
			seen += len(l)
			many++
		}
	}
	if seen < 500 || many < 500 {
		t.Error("the cases are lopsided", seen, many)
	}
}

// isLast reports whether a claim is the last one of a piece that counts.
func isLast(s api.Shop, c api.Claim, piece, day int) bool {
	return doesCount(c.Known, c.Until, day) && isOf(c.First, c.Many, piece) && !slices.ContainsFunc(s.Claims, func(d api.Claim) bool {
		isLater := d.Known > c.Known || d.Known == c.Known && d.Source > c.Source
		return isLater && doesCount(d.Known, d.Until, day) && isOf(d.First, d.Many, piece)
	})
}

// checkMark tells how many pieces a claim made another maker's on a day.
func checkMark(t *testing.T, s api.Shop, c api.Claim, day int) int {
	t.Helper()
	marked := claimed(s, c)
	moved, e := pay.Moved(marked, c.Source, day)
	if e != api.OK {
		t.Fatal(marked, c, e)
	}
	many := 0
	for piece := 1; piece <= lastPiece; piece++ {
		x, y := ask(s, piece, day), ask(marked, piece, day)
		switch {
		case !isOf(c.First, c.Many, piece), !doesCount(c.Known, c.Until, day):
			if x != y || slices.Contains(moved, piece) {
				t.Fatal(s, c, piece, day, x, y)
			}
		case isLast(s, c, piece, day) && y.e == api.OK && y.maker != c.Maker:
			t.Fatal(s, c, piece, day, x, y)
		}
		if x.isPaid != y.isPaid || x.isFined != y.isFined || x.outcome != y.outcome || x.e != y.e {
			t.Fatal("a claim moves no more than the maker", s, c, piece, day, x, y)
		}
		if x.maker != y.maker {
			many++
		}
	}
	return many
}

func TestMarks(t *testing.T) {
	r := rand.New(rand.NewSource(10))
	many := 0
	for range 100 {
		s := someShop(r)
		c := someClaim(r, 99)
		for day := range lastDay + 1 {
			many += checkMark(t, s, c, day)
		}
	}
	if many < 300 {
		t.Error("the cases are lopsided", many)
	}
}
