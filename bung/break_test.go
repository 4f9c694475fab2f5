package bung_test

import (
	"math"
	"math/rand"
	"slices"
	"testing"

	"potbank/api"
	"potbank/bung"
)

func isSameBreak(x, y api.Break) bool {
	return x.Course == y.Course && x.Bears == y.Bears && slices.Equal(x.Weights, y.Weights)
}

func TestBreaksExamples(t *testing.T) {
	for _, x := range []struct {
		b    api.Bung
		want api.Break
	}{
		{of(b(), a(), c()), api.Break{Course: 0, Weights: []int{120, 60}, Bears: 150}},
		{of(c(), b(), a()), api.Break{Course: 0, Weights: []int{90, 120}, Bears: 50}},
		{of(a(), c(), b()), api.Break{Course: 1, Weights: []int{90}, Bears: 50}},
		// The first course that may break is named, though the one above it breaks for sure.
		{of(api.Saggar{Id: 9, Bears: span(149, 150), High: span(1, 1)}, c(), b()), api.Break{Course: 0, Weights: []int{60, 90}, Bears: 149}},
	} {
		if y, e := bung.Breaks(x.b); !isSameBreak(y, x.want) || e != api.OK {
			t.Error(x, y, e)
		}
		if e := bung.CheckBreak(x.b, x.want); e != api.OK {
			t.Error(x, e)
		}
	}
	for _, x := range []api.Bung{of(a(), b(), c()), of(c()), of(light(30)...)} {
		if y, e := bung.Breaks(x); !isSameBreak(y, api.Break{}) || e != api.ErrStands {
			t.Error(x, y, e)
		}
	}
}

func TestCheckBreakExamples(t *testing.T) {
	for _, x := range []struct {
		course, bears int
		weights       []int
		want          api.Errno
	}{
		{0, 150, []int{120, 60}, api.OK},
		{0, 179, []int{120, 60}, api.OK},
		{0, 159, []int{100, 60}, api.OK},
		{0, 180, []int{120, 60}, api.ErrBreak},
		{0, 160, []int{100, 60}, api.ErrBreak},
		{0, 200, []int{120, 60}, api.ErrBreak},
		{0, 149, []int{120, 60}, api.ErrBreak},
		{0, math.MinInt, []int{120, 60}, api.ErrBreak},
		{0, 150, []int{121, 60}, api.ErrBreak},
		{0, 150, []int{99, 60}, api.ErrBreak},
		{0, 150, []int{120, 61}, api.ErrBreak},
		{0, 150, []int{120, 59}, api.ErrBreak},
		{0, 150, []int{math.MaxInt, math.MaxInt}, api.ErrBreak},
		{0, 150, []int{60, 120}, api.ErrBreak},
		{0, 150, []int{120}, api.ErrBreak},
		{0, 150, []int{120, 60, 0}, api.ErrBreak},
		{0, 150, nil, api.ErrBreak},
		{1, 300, []int{60}, api.ErrBreak},
		{2, 50, nil, api.ErrBreak},
		{3, 150, nil, api.ErrBreak},
		{-1, 150, []int{90, 120, 60}, api.ErrBreak},
		{math.MaxInt, 150, nil, api.ErrBreak},
		{math.MinInt, 150, []int{120, 60}, api.ErrBreak},
	} {
		y := api.Break{Course: x.course, Bears: x.bears, Weights: x.weights}
		if e := bung.CheckBreak(of(b(), a(), c()), y); e != x.want {
			t.Error(x, e)
		}
	}
}

// breaks goes through all weights, and all that courses may bear, and somewhat beyond: CheckBreak must accept just the breaks. It returns how many there are.
func breaks(t *testing.T, x api.Bung) int {
	t.Helper()
	many := 0
	for i, s := range x.Saggars {
		for w := range weights(x.Saggars[i+1:]) {
			for bears := s.Bears.Lo - 1; bears <= s.Bears.Hi+1; bears++ {
				is := total(w) > bears && s.Bears.Lo <= bears && bears <= s.Bears.Hi
				e := bung.CheckBreak(x, api.Break{Course: i, Bears: bears, Weights: w})
				if is != (e == api.OK) || !is && e != api.ErrBreak {
					t.Fatal(x, i, w, bears, e)
				}
				if is {
					many++
				}
			}
		}
	}
	return many
}

// breaksAnyway reports whether some course breaks for all that saggars may weigh and bear.
func breaksAnyway(x api.Bung) bool {
	for i := range x.Saggars {
		if courseAnswer(x.Saggars, i) == api.No {
			return true
		}
	}
	return false
}

func TestBreaksAreThoseOfBungsThatDoNotStand(t *testing.T) {
	r := rand.New(rand.NewSource(6))
	var seen [3]int
	for range 1000 {
		x := someBung(r, 4)
		many := breaks(t, x)
		stand, _ := bung.Stands(x)
		seen[stand]++
		if (many == 0) != (stand == api.Yes) || breaksAnyway(x) != (stand == api.No) {
			t.Fatal(x, stand, many)
		}
		y, e := bung.Breaks(x)
		if stand == api.Yes {
			if !isSameBreak(y, api.Break{}) || e != api.ErrStands {
				t.Fatal(x, y, e)
			}
			continue
		}
		if e != api.OK || bung.CheckBreak(x, y) != api.OK {
			t.Fatal(x, y, e)
		}
		answers, _ := bung.Courses(x)
		if answers[y.Course] == api.Yes || slices.ContainsFunc(answers[:y.Course], func(n int) bool { return n != api.Yes }) {
			t.Fatal(x, y, answers)
		}
	}
	if slices.Min(seen[:]) < 50 {
		t.Error("the cases are lopsided", seen)
	}
}
