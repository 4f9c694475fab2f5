package bung_test

import (
	"math/rand"
	"slices"
	"testing"

	"potbank/api"
	"potbank/bung"
)

func TestSeatExamples(t *testing.T) {
	high, low := of(a(), b(), c()), of(a(), c()) // up to 540 and 320 high, and off by 4 and 0
	for _, x := range []struct {
		l    []api.Bung
		s    []api.Spot
		want []int
	}{
		{nil, nil, nil},
		{nil, []api.Spot{spot(540, 4)}, nil},
		{[]api.Bung{high}, []api.Spot{spot(539, 4), spot(540, 3), spot(540, 4), spot(600, 9)}, []int{2}},
		{[]api.Bung{low, high}, []api.Spot{spot(320, 0), spot(540, 4)}, []int{0, 1}},
		{[]api.Bung{low, high}, []api.Spot{spot(540, 4), spot(320, 0)}, []int{1, 0}},
		{[]api.Bung{low, high}, []api.Spot{spot(540, 4), spot(540, 4)}, []int{0, 1}},
		{[]api.Bung{low, low, high}, []api.Spot{spot(540, 4), spot(320, 0), spot(320, 0), spot(540, 4)}, []int{0, 1, 3}},
		{[]api.Bung{low, low, high}, []api.Spot{spot(320, 0), spot(540, 4), spot(320, 0)}, []int{0, 2, 1}},
	} {
		if l, e := bung.Seat(x.l, x.s); !slices.Equal(l, x.want) || e != api.OK {
			t.Error(x, l, e)
		}
	}
	for _, x := range []struct {
		l []api.Bung
		s []api.Spot
	}{
		{[]api.Bung{low}, nil},
		{[]api.Bung{low}, []api.Spot{spot(319, 9)}},
		{[]api.Bung{low, low}, []api.Spot{spot(320, 0)}},
		{[]api.Bung{low, high}, []api.Spot{spot(540, 3), spot(539, 4)}},
		{[]api.Bung{high, high}, []api.Spot{spot(540, 4), spot(320, 0)}},
		// It may be that it stands.
		{[]api.Bung{of(b(), a(), c())}, []api.Spot{spot(400000, 100000)}},
	} {
		if l, e := bung.Seat(x.l, x.s); len(l) != 0 || e != api.ErrNone {
			t.Error(x, l, e)
		}
	}
}

func TestSeatOfMany(t *testing.T) {
	nine, spots := slices.Repeat([]api.Bung{of(a())}, 9), slices.Repeat([]api.Spot{spot(210, 0)}, 9)
	if l, e := bung.Seat(nine, spots); !slices.Equal(l, []int{0, 1, 2, 3, 4, 5, 6, 7, 8}) || e != api.OK {
		t.Error(l, e)
	}
	// All the ways of eight bungs are tried ahead of the ninth, that fits nowhere.
	if l, e := bung.Seat(append(nine[:8:8], of(a(), c())), spots); len(l) != 0 || e != api.ErrNone {
		t.Error(l, e)
	}
	for _, x := range []struct{ bungs, spots int }{{10, 9}, {9, 10}, {10, 10}, {0, 10}, {10, 0}, {1000, 1000}} {
		l, e := bung.Seat(slices.Repeat([]api.Bung{of(a())}, x.bungs), slices.Repeat([]api.Spot{spot(210, 0)}, x.spots))
		if len(l) != 0 || e != api.ErrMany {
			t.Error(x, l, e)
		}
	}
}

// seats goes through all lists of different spots, in order.
func seats(l []api.Bung, s []api.Spot, given []int) ([]int, bool) {
	if len(given) == len(l) {
		return given, true
	}
	for i := range s {
		if n, _ := bung.Fits(l[len(given)], s[i]); n != api.Yes || slices.Contains(given, i) {
			continue
		}
		if found, is := seats(l, s, append(slices.Clone(given), i)); is {
			return found, true
		}
	}
	return nil, false
}

func TestSeatOfAllLists(t *testing.T) {
	r := rand.New(rand.NewSource(13))
	var seen [2]int
	for range 2000 {
		var l []api.Bung
		for range r.Intn(5) {
			l = append(l, someBung(r, 2))
		}
		var s []api.Spot
		for range len(l) + r.Intn(3) {
			s = append(s, spot(5+r.Intn(20), r.Intn(4)))
		}
		want, is := seats(l, s, nil)
		got, e := bung.Seat(l, s)
		if !slices.Equal(got, want) || is != (e == api.OK) || !is && e != api.ErrNone {
			t.Fatal(l, s, got, want, e)
		}
		if !is {
			seen[0]++
			continue
		}
		seen[1]++
		if len(s) == 0 {
			continue
		}
		better := slices.Clone(s)
		at := r.Intn(len(s))
		better[at].Crown += r.Intn(5)
		better[at].Lean += r.Intn(3)
		if got, e := bung.Seat(l, better); len(got) != len(l) || e != api.OK {
			t.Fatal(l, s, better, got, e)
		}
	}
	if slices.Min(seen[:]) < 200 {
		t.Error("the cases are lopsided", seen)
	}
}
