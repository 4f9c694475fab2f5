package bung_test

import (
	"iter"
	"math/rand"
	"slices"
	"testing"

	"potbank/api"
	"potbank/bung"
)

func TestCoursesExamples(t *testing.T) {
	for _, x := range []struct {
		l       []api.Saggar
		loads   []api.Range
		courses []int
		stands  int
	}{
		{[]api.Saggar{a(), b(), c()}, []api.Range{span(140, 150), span(60, 60), {}}, []int{api.Yes, api.Yes, api.Yes}, api.Yes},
		{[]api.Saggar{b(), a(), c()}, []api.Range{span(160, 180), span(60, 60), {}}, []int{api.Maybe, api.Yes, api.Yes}, api.Maybe},
		{[]api.Saggar{c(), b(), a()}, []api.Range{span(180, 210), span(100, 120), {}}, []int{api.No, api.Yes, api.Yes}, api.No},
		{[]api.Saggar{c()}, []api.Range{{}}, []int{api.Yes}, api.Yes},
		{[]api.Saggar{c(), a(), b()}, []api.Range{span(180, 210), span(80, 90), {}}, []int{api.No, api.Yes, api.Yes}, api.No},
		{light(3), make([]api.Range, 3), []int{api.Yes, api.Yes, api.Yes}, api.Yes},
	} {
		if l, e := bung.Loads(of(x.l...)); !slices.Equal(l, x.loads) || e != api.OK {
			t.Error(x, l, e)
		}
		if l, e := bung.Courses(of(x.l...)); !slices.Equal(l, x.courses) || e != api.OK {
			t.Error(x, l, e)
		}
		if n, e := bung.Stands(of(x.l...)); n != x.stands || e != api.OK {
			t.Error(x, n, e)
		}
	}
}

func TestNoAndMaybeTogether(t *testing.T) {
	maybe := api.Saggar{Id: 8, Bears: span(59, 60), High: span(1, 1)}
	no := api.Saggar{Id: 9, Bears: span(58, 59), High: span(1, 1)}
	for _, l := range [][]api.Saggar{{maybe, no, c()}, {no, maybe, c()}} {
		if n, e := bung.Stands(of(l...)); n != api.No || e != api.OK {
			t.Error(l, n, e)
		}
	}
}

// What a course bears at the ends of the ranges: a load of 60 to 70 on each.
func TestEndsOfBears(t *testing.T) {
	above := api.Saggar{Id: 2, Weight: span(60, 70), High: span(1, 1)}
	for bears, want := range map[api.Range]int{
		span(70, 70): api.Yes, span(70, 80): api.Yes, span(69, 80): api.Maybe, span(69, 69): api.Maybe,
		span(60, 60): api.Maybe, span(0, 60): api.Maybe, span(0, 59): api.No, span(59, 59): api.No,
	} {
		l, e := bung.Courses(of(api.Saggar{Id: 1, Bears: bears, High: span(1, 1)}, above))
		if !slices.Equal(l, []int{want, api.Yes}) || e != api.OK {
			t.Error(bears, l, e)
		}
	}
}

// weights yields all that saggars may weigh, in the same memory.
func weights(l []api.Saggar) iter.Seq[[]int] {
	return func(yield func([]int) bool) {
		now := make([]int, len(l))
		var weigh func(i int) bool
		weigh = func(i int) bool {
			if i == len(l) {
				return yield(now)
			}
			for now[i] = l[i].Weight.Lo; now[i] <= l[i].Weight.Hi; now[i]++ {
				if !weigh(i + 1) {
					return false
				}
			}
			return true
		}
		weigh(0)
	}
}

func total(numbers []int) int {
	n := 0
	for _, x := range numbers {
		n += x
	}
	return n
}

// courseAnswer goes through all weights, and all that a course may bear.
func courseAnswer(l []api.Saggar, course int) int {
	breaks, holds := false, false
	for w := range weights(l[course+1:]) {
		for bears := l[course].Bears.Lo; bears <= l[course].Bears.Hi; bears++ {
			if total(w) > bears {
				breaks = true
			} else {
				holds = true
			}
		}
	}
	if !breaks {
		return api.Yes
	}
	if !holds {
		return api.No
	}
	return api.Maybe
}

func TestCoursesOfAllWeights(t *testing.T) {
	r := rand.New(rand.NewSource(1))
	var seen [3]int
	for range 2000 {
		x := someBung(r, 5)
		want, all := make([]int, len(x.Saggars)), api.Yes
		for i := range want {
			want[i] = courseAnswer(x.Saggars, i)
			if want[i] == api.No || want[i] == api.Maybe && all == api.Yes {
				all = want[i]
			}
		}
		if l, e := bung.Courses(x); !slices.Equal(l, want) || e != api.OK {
			t.Fatal(x, l, want, e)
		}
		if n, e := bung.Stands(x); n != all || e != api.OK {
			t.Fatal(x, n, all, e)
		}
		seen[all]++
	}
	if slices.Min(seen[:]) < 100 {
		t.Error("the cases are lopsided", seen)
	}
}

// Each end of a load is what some weights come to, and none are beyond it.
func TestLoadsAreSharp(t *testing.T) {
	r := rand.New(rand.NewSource(2))
	for range 500 {
		x := someBung(r, 5)
		loads, e := bung.Loads(x)
		if len(loads) != len(x.Saggars) || e != api.OK {
			t.Fatal(x, loads, e)
		}
		for i, load := range loads {
			lo, hi := 1000, -1
			for w := range weights(x.Saggars[i+1:]) {
				lo, hi = min(lo, total(w)), max(hi, total(w))
			}
			if load != span(lo, hi) {
				t.Fatal(x, i, load, lo, hi)
			}
		}
	}
}

func TestHeightAndLeanExamples(t *testing.T) {
	tilted := c()
	tilted.Tilt = 1
	high := make([]api.Saggar, 30)
	for i := range high {
		high[i] = greatest(i + 1)
	}
	all := api.Bung{Wad: span(200, 200), Saggars: high}
	// Courses 1 to 29 have 29 to 1 saggars from them on up.
	off := 0
	for n := 1; n < 30; n++ {
		off += 200 * (n*10000 + (n-1)*200)
	}
	for _, x := range []struct {
		b      api.Bung
		height api.Range
		lean   int
	}{
		{of(a(), b(), c()), span(510, 540), 4},
		{of(a()), span(200, 210), 0},
		{of(a(), b()), span(405, 430), 3}, // 10 times 210 is 2100
		{of(b(), a()), span(405, 430), 2}, // 5 times 210 is 1050
		{of(a(), tilted), span(305, 320), 1},
		{of(a(), c()), span(305, 320), 0},
		{of(c(), b(), a()), span(510, 540), 6}, // 10 times 430 and 5 times 210 are 5350
		{api.Bung{Saggars: []api.Saggar{c(), {Id: 9, High: span(5, 5), Tilt: 200}}}, span(105, 105), 1}, // just 1000
		{api.Bung{Saggars: []api.Saggar{c(), {Id: 9, High: span(6, 7), Tilt: 143}}}, span(106, 107), 2}, // 1001
		{all, span(305800, 305800), off / 1000},
	} {
		if h, e := bung.Height(x.b); h != x.height || e != api.OK {
			t.Error(x, h, e)
		}
		if n, e := bung.Lean(x.b); n != x.lean || e != api.OK {
			t.Error(x, n, e)
		}
	}
}

// heightFrom is the height of the courses from one on up, at one end of the ranges.
func heightFrom(x api.Bung, course int, end func(r api.Range) int) int {
	high := -end(x.Wad)
	for _, s := range x.Saggars[course:] {
		high += end(x.Wad) + end(s.High)
	}
	return high
}

func least(r api.Range) int { return r.Lo }
func most(r api.Range) int  { return r.Hi }

func TestHeightAndLeanOfMany(t *testing.T) {
	r := rand.New(rand.NewSource(3))
	for range 1000 {
		x := someBung(r, 30)
		if h, e := bung.Height(x); h != span(heightFrom(x, 0, least), heightFrom(x, 0, most)) || e != api.OK {
			t.Fatal(x, h, e)
		}
		off := 0
		for i := 1; i < len(x.Saggars); i++ {
			off += x.Saggars[i].Tilt * heightFrom(x, i, most)
		}
		if n, e := bung.Lean(x); n*1000 < off || (n-1)*1000 >= off || e != api.OK {
			t.Fatal(x, n, off, e)
		}
	}
}

func TestFitsExamples(t *testing.T) {
	for _, x := range []struct {
		b    api.Bung
		s    api.Spot
		want int
	}{
		{of(a(), b(), c()), spot(540, 4), api.Yes},
		{of(a(), b(), c()), spot(539, 4), api.Maybe},
		{of(a(), b(), c()), spot(540, 3), api.Maybe},
		{of(a(), b(), c()), spot(509, 9), api.No},
		{of(a(), b(), c()), spot(510, 9), api.Maybe},
		{of(a(), b(), c()), spot(510, 0), api.Maybe},
		{of(a(), b(), c()), spot(400000, 100000), api.Yes},
		{of(a(), b(), c()), spot(0, 0), api.No},
		{of(b(), a(), c()), spot(600, 9), api.Maybe},
		{of(b(), a(), c()), spot(509, 9), api.No},
		{of(c(), b(), a()), spot(600, 9), api.No},
		{of(c(), b(), a()), spot(539, 9), api.No},
		{of(c(), b(), a()), spot(600, 0), api.No},
		{of(a()), spot(210, 0), api.Yes},
	} {
		if n, e := bung.Fits(x.b, x.s); n != x.want || e != api.OK {
			t.Error(x, n, e)
		}
	}
}

// narrower returns a range within r.
func narrower(r *rand.Rand, x api.Range) api.Range {
	lo := x.Lo + r.Intn(x.Hi-x.Lo+1)
	return span(lo, lo+r.Intn(x.Hi-lo+1))
}

func TestNarrowerRanges(t *testing.T) {
	r := rand.New(rand.NewSource(4))
	var kept [3]int
	for range 3000 {
		x := someBung(r, 5)
		y := api.Bung{Wad: narrower(r, x.Wad), Saggars: slices.Clone(x.Saggars)}
		for i, s := range y.Saggars {
			y.Saggars[i].Weight, y.Saggars[i].Bears, y.Saggars[i].High = narrower(r, s.Weight), narrower(r, s.Bears), narrower(r, s.High)
		}
		was, _ := bung.Stands(x)
		is, _ := bung.Stands(y)
		if was != api.Maybe && is != was {
			t.Fatal(x, y, was, is)
		}
		kept[was]++
		wasHigh, _ := bung.Height(x)
		isHigh, _ := bung.Height(y)
		wasOff, _ := bung.Lean(x)
		isOff, _ := bung.Lean(y)
		if isHigh.Lo < wasHigh.Lo || isHigh.Hi > wasHigh.Hi || isOff > wasOff {
			t.Fatal(x, y, wasHigh, isHigh, wasOff, isOff)
		}
	}
	if slices.Min(kept[:]) < 100 {
		t.Error("the cases are lopsided", kept)
	}
}

func TestStandsWithoutSome(t *testing.T) {
	r := rand.New(rand.NewSource(5))
	many := 0
	for range 2000 {
		x := someBung(r, 6)
		if n, _ := bung.Stands(x); n != api.Yes || len(x.Saggars) == 1 {
			continue
		}
		many++
		high, _ := bung.Height(x)
		off, _ := bung.Lean(x)
		for i := range x.Saggars {
			y := api.Bung{Wad: x.Wad, Saggars: slices.Delete(slices.Clone(x.Saggars), i, i+1)}
			if n, e := bung.Fits(y, spot(high.Hi, off)); n != api.Yes || e != api.OK {
				t.Fatal(x, i, n, e)
			}
			if n, e := bung.Stands(api.Bung{Wad: x.Wad, Saggars: x.Saggars[:i+1]}); n != api.Yes || e != api.OK {
				t.Fatal(x, i, n, e)
			}
		}
	}
	if many < 100 {
		t.Error("the cases are lopsided", many)
	}
}
