package limits_test

import (
	"testing"

	"potbank/api"
	"potbank/limits"
	"potbank/probe"
)

func TestIsBetween(t *testing.T) {
	for _, n := range []int{-2, -1, 0, 5} {
		if !limits.IsBetween(n, -2, 5) {
			t.Error(n)
		}
	}
	for _, n := range probe.WrongNumbers(-2, 5) {
		if limits.IsBetween(n, -2, 5) {
			t.Error(n)
		}
	}
	if !limits.IsBetween(3, 3, 3) || limits.IsBetween(3, 3, 2) || limits.IsBetween(2, 3, 2) {
		t.Error("the narrowest limits")
	}
}

func TestIsRange(t *testing.T) {
	for _, r := range []api.Range{probe.Span(-2, 5), probe.Span(-2, -2), probe.Span(5, 5), probe.Span(0, 1)} {
		if !limits.IsRange(r, -2, 5) {
			t.Error(r)
		}
	}
	for _, r := range probe.WrongRanges(-2, 5) {
		if limits.IsRange(r, -2, 5) {
			t.Error(r)
		}
	}
}

func TestNumbersOfOneLimit(t *testing.T) {
	for _, x := range []struct {
		is     func(n int) bool
		lo, hi int
	}{{limits.IsDay, 0, 100000}, {limits.IsSource, 1, 99999}, {limits.IsPiece, 1, 9999}} {
		for _, n := range []int{x.lo, x.lo + 1, 777, x.hi} {
			if !x.is(n) {
				t.Error(x.lo, n)
			}
		}
		for _, n := range probe.WrongNumbers(x.lo, x.hi) {
			if x.is(n) {
				t.Error(x.lo, n)
			}
		}
	}
}

func TestArePieces(t *testing.T) {
	for first := -2; first < 10010; first++ {
		for many := -2; many < 43; many++ {
			want := first >= 1 && many >= 1 && many <= 40 && first+many <= 10000
			if limits.ArePieces(first, many) != want {
				t.Fatal(first, many)
			}
		}
	}
	for _, n := range probe.WrongNumbers(1, 40) {
		for _, m := range probe.WrongNumbers(1, 9999) {
			if limits.ArePieces(1, n) || limits.ArePieces(9999, n) || limits.ArePieces(m, 1) || limits.ArePieces(m, n) {
				t.Error(m, n)
			}
		}
	}
}

func entry(house, no int) api.Entry { return api.Entry{House: house, No: no} }

func TestIsEntry(t *testing.T) {
	for _, x := range []api.Entry{entry(0, 0), entry(5, 0), entry(0, 9999), entry(5, 9999), entry(2, 77)} {
		if !limits.IsEntry(x) {
			t.Error(x)
		}
	}
	for _, n := range probe.WrongNumbers(0, 5) {
		if limits.IsEntry(entry(n, 0)) {
			t.Error(n)
		}
	}
	for _, n := range probe.WrongNumbers(0, 9999) {
		if limits.IsEntry(entry(0, n)) {
			t.Error(n)
		}
	}
}

func TestIsAhead(t *testing.T) {
	for _, x := range []struct {
		is   bool
		x, y api.Entry
	}{
		{true, entry(2, 0), entry(2, 1)}, {true, entry(5, 3), entry(5, 9999)}, {false, entry(2, 3), entry(2, 3)}, {false, entry(2, 4), entry(2, 3)},
		{false, entry(1, 0), entry(2, 1)}, {false, entry(3, 0), entry(2, 1)}, {false, entry(2, -1), entry(2, 1)}, {false, entry(6, 0), entry(6, 1)},
	} {
		if limits.IsAhead(x.x, x.y) != x.is {
			t.Error(x)
		}
	}
}

func TestUnless(t *testing.T) {
	if limits.Unless(true, api.ErrLong) != api.OK || limits.Unless(false, api.ErrLong) != api.ErrLong {
		t.Error("it is not the error of what is not so")
	}
}
