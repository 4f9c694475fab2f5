package limits_test

import (
	"testing"

	"potbank/api"
	"potbank/limits"
	"potbank/probe"
)

func TestIsBetween(t *testing.T) {
	for _, n := range []int{-2, -1, 0, 5} {
		if !limits.IsBetween(n, -2, 5) {
			t.Error(n)
		}
	}
	for _, n := range probe.WrongNumbers(-2, 5) {
		if limits.IsBetween(n, -2, 5) {
			t.Error(n)
		}
	}
	if !limits.IsBetween(3, 3, 3) || limits.IsBetween(3, 3, 2) || limits.IsBetween(2, 3, 2) {
		t.Error("the narrowest limits")
	}
}

func TestIsRange(t *testing.T) {
	for _, r := range []api.Range{probe.Span(-2, 5), probe.Span(-2, -2), probe.Span(5, 5), probe.Span(0, 1)} {
		if !limits.IsRange(r, -2, 5) {
			t.Error(r)
		}
	}
	for _, r := range probe.WrongRanges(-2, 5) {
		if limits.IsRange(r, -2, 5) {
			t.Error(r)
		}
	}
}
