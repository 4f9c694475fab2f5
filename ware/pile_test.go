package ware_test

import (
	"math"
	"math/rand"
	"testing"

	"potbank/api"
	"potbank/ware"
)

func TestHeightExamples(t *testing.T) {
	for many, want := range map[int]api.Range{1: span(50, 51), 2: span(90, 92), 3: span(130, 133), 40: span(1610, 1650)} {
		if r, e := ware.Height(bowl(), many); r != want || e != api.OK {
			t.Error(many, r, e)
		}
	}
	s, _ := widest()
	if r, e := ware.Height(s, api.MaxPile); r != s.High || e != api.OK {
		t.Error("pieces that nest wholly are no higher", r, e)
	}
	s.Nest = 0
	if r, e := ware.Height(s, api.MaxPile); r != span(80000, 80000) || e != api.OK {
		t.Error(r, e)
	}
}

func TestLoadExamples(t *testing.T) {
	for at, want := range []api.Range{span(400, 420), span(200, 210), span(0, 0)} {
		if r, e := ware.Load(bowl(), 3, at); r != want || e != api.OK {
			t.Error(at, r, e)
		}
	}
	s, _ := widest()
	if r, e := ware.Load(s, api.MaxPile, 0); r != span(3900000, 3900000) || e != api.OK {
		t.Error(r, e)
	}
}

func TestStandsExamples(t *testing.T) {
	for many, want := range map[int]bool{1: true, 5: true, 6: false, 40: false} {
		if is, e := ware.Stands(bowl(), many); is != want || e != api.OK {
			t.Error(many, is, e)
		}
	}
	s := bowl()
	s.Bears = 1050
	if is, e := ware.Stands(s, 6); !is || e != api.OK {
		t.Error("a rim bears as much as Bears", is, e)
	}
	s.Bears = 0
	if is, e := ware.Stands(s, 1); !is || e != api.OK {
		t.Error("one piece bears nothing", is, e)
	}
	if is, e := ware.Stands(s, 2); is || e != api.OK {
		t.Error(is, e)
	}
	s.Weight = span(0, 0)
	if is, e := ware.Stands(s, api.MaxPile); !is || e != api.OK {
		t.Error("what weighs nothing stands", is, e)
	}
}

func TestMostExamples(t *testing.T) {
	for high, want := range map[int]int{51: 1, 91: 1, 92: 2, 132: 2, 133: 3, 214: 4, 215: 5, 1000: 5, math.MaxInt: 5} {
		if n, e := ware.Most(bowl(), high); n != want || e != api.OK {
			t.Error(high, n, e)
		}
	}
	for _, high := range []int{50, 0, -1, math.MinInt} {
		if n, e := ware.Most(bowl(), high); n != 0 || e != api.ErrNone {
			t.Error(high, n, e)
		}
	}
	s, _ := least()
	if n, e := ware.Most(s, 0); n != api.MaxPile || e != api.OK {
		t.Error("a pile has at most MaxPile pieces", n, e)
	}
	if n, e := ware.Most(s, -1); n != 0 || e != api.ErrNone {
		t.Error(n, e)
	}
}

// pileShape is one whose piles break, or are too high, at many different numbers of pieces.
func pileShape(r *rand.Rand) api.Shape {
	s := randomShape(r)
	s.Weight = randomRange(r, 0, 1+r.Intn(2000))
	s.Bears = r.Intn(1 + r.Intn(20000))
	return s
}

// canBreak reports whether a piece may have more above it than it bears, as the weights of the chapter's definition tell.
func canBreak(s api.Shape, many int) bool {
	for at := range many {
		above := 0
		for range many - at - 1 {
			above += s.Weight.Hi
		}
		if above > s.Bears {
			return true
		}
	}
	return false
}

func TestPilesBearThemselves(t *testing.T) {
	r := rand.New(rand.NewSource(4))
	stood, broke := 0, 0
	for range 1500 {
		s := pileShape(r)
		for many := 1; many <= api.MaxPile; many++ {
			is, e := ware.Stands(s, many)
			if e != api.OK || is == canBreak(s, many) {
				t.Fatal(s, many, is, e)
			}
			lowest, e := ware.Load(s, many, 0)
			if e != api.OK || is != (lowest.Hi <= s.Bears) {
				t.Fatal(s, many, is, lowest, e)
			}
			if !is {
				broke++
				continue
			}
			stood++
			if less, e := ware.Stands(s, max(many-1, 1)); !less || e != api.OK {
				t.Fatal(s, many, "stands, but not with a piece less", e)
			}
		}
	}
	if stood < 1000 || broke < 1000 {
		t.Error("the cases are lopsided", stood, broke)
	}
}

func TestHeightAndLoadOfAllPiles(t *testing.T) {
	r := rand.New(rand.NewSource(5))
	for range 300 {
		s := randomShape(r)
		high := s.High
		for many := 1; many <= api.MaxPile; many++ {
			if got, e := ware.Height(s, many); got != high || e != api.OK {
				t.Fatal(s, many, got, high, e)
			}
			high.Lo += s.High.Lo - s.Nest
			high.Hi += s.High.Hi - s.Nest
			var above api.Range
			for at := many - 1; at >= 0; at-- {
				if got, e := ware.Load(s, many, at); got != above || e != api.OK {
					t.Fatal(s, many, at, got, above, e)
				}
				above.Lo += s.Weight.Lo
				above.Hi += s.Weight.Hi
			}
		}
	}
}

func TestMostIsTheGreatestPile(t *testing.T) {
	r := rand.New(rand.NewSource(6))
	none := 0
	for range 3000 {
		s := pileShape(r)
		high := r.Intn(1 + r.Intn(20000))
		want := 0
		for many := 1; many <= api.MaxPile; many++ {
			is, _ := ware.Stands(s, many)
			h, _ := ware.Height(s, many)
			if is && h.Hi <= high {
				want = many
			}
		}
		got, e := ware.Most(s, high)
		if got != want || (e == api.OK) != (want > 0) || e != api.OK && e != api.ErrNone {
			t.Fatal(s, high, got, want, e)
		}
		if want == 0 {
			none++
		}
	}
	if none < 100 || none > 2500 {
		t.Error("the cases are lopsided", none)
	}
}

func TestErrorsOfPiles(t *testing.T) {
	for _, s := range wrongShapes() {
		for _, many := range []int{0, 3} {
			if r, e := ware.Height(s, many); r != (api.Range{}) || e != api.ErrShape {
				t.Error(s, many, r, e)
			}
			if r, e := ware.Load(s, many, -1); r != (api.Range{}) || e != api.ErrShape {
				t.Error(s, many, r, e)
			}
			if is, e := ware.Stands(s, many); is || e != api.ErrShape {
				t.Error(s, many, is, e)
			}
		}
		if n, e := ware.Most(s, -1); n != 0 || e != api.ErrShape {
			t.Error(s, n, e)
		}
	}
	for _, many := range wrongNumbers(1, api.MaxPile) {
		if r, e := ware.Height(bowl(), many); r != (api.Range{}) || e != api.ErrPile {
			t.Error(many, r, e)
		}
		for _, at := range []int{-1, 0, many} {
			if r, e := ware.Load(bowl(), many, at); r != (api.Range{}) || e != api.ErrPile {
				t.Error(many, at, r, e)
			}
		}
		if is, e := ware.Stands(bowl(), many); is || e != api.ErrPile {
			t.Error(many, is, e)
		}
	}
	for _, at := range wrongNumbers(0, 2) {
		if r, e := ware.Load(bowl(), 3, at); r != (api.Range{}) || e != api.ErrArg {
			t.Error(at, r, e)
		}
	}
}
