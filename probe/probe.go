// Package probe has what the tests of all layers share: wrong arguments, and calls whose errors come in an order. The program itself does not call it.
package probe

import (
	"math"
	"slices"

	"potbank/api"
)

// Span returns the range from lo to hi.
func Span(lo, hi int) api.Range { return api.Range{Lo: lo, Hi: hi} }

// WrongNumbers lists numbers that are not from lo to hi.
func WrongNumbers(lo, hi int) []int { return []int{lo - 1, hi + 1, math.MinInt, math.MaxInt} }

// WrongRanges lists what is no range of numbers from lo to hi.
func WrongRanges(lo, hi int) []api.Range {
	l := []api.Range{Span(lo+1, lo), Span(hi, hi-1), Span(math.MaxInt, math.MinInt)}
	for _, n := range WrongNumbers(lo, hi) {
		l = append(l, Span(n, hi), Span(lo, n), Span(n, n))
	}
	return l
}

// Choices returns all lists of some elements of a list, in their order.
func Choices[T any](list []T) [][]T {
	all := [][]T{nil}
	for _, v := range list {
		for _, some := range all {
			all = append(all, append(slices.Clone(some), v))
		}
	}
	return all
}

// Told is what a call told: its error, and whether its other results are zero values.
type Told struct {
	Zero  bool
	Error api.Errno
}

// Error is what a call told that returns an error alone.
func Error(e api.Errno) Told { return Told{true, e} }

// Value is what a call told that returns a value and an error.
func Value[T comparable](v T, e api.Errno) Told {
	var none T
	return Told{v == none, e}
}

// List is what a call told that returns a list and an error.
func List[T any](l []T, e api.Errno) Told { return Told{len(l) == 0, e} }

// By turns a test of a value, for those that == does not compare, into what Value is for the others.
func By[T any](isNone func(v T) bool) func(T, api.Errno) Told {
	return func(v T, e api.Errno) Told { return Told{isNone(v), e} }
}

// Call is a function with the errors that its arguments may have, in the order of its chapter; Run calls it with those of x that it takes.
type Call[A any] struct {
	Name   string
	Errors []api.Errno
	Run    func(x A) Told
}

// Of returns the call of a function.
func Of[A any](name string, errors []api.Errno, run func(x A) Told) Call[A] {
	return Call[A]{Name: name, Errors: errors, Run: run}
}

// chosen returns the errors whose indices a number has as its bits.
func chosen(errors []api.Errno, choice int) []api.Errno {
	var some []api.Errno
	for i, e := range errors {
		if choice>>i&1 == 1 {
			some = append(some, e)
		}
	}
	return some
}

// OutOfOrder runs calls with arguments that have some of their errors, in all choices, and returns the names of those that do not tell the first one; spoilt returns arguments that have errors.
func OutOfOrder[A any](calls []Call[A], spoilt func(errors []api.Errno) A) []string {
	var names []string
	for _, c := range calls {
		for choice := 1; choice < 1<<len(c.Errors); choice++ {
			errors := chosen(c.Errors, choice)
			if c.Run(spoilt(errors)) != Error(errors[0]) {
				names = append(names, c.Name)
			}
		}
	}
	return names
}

// Missed runs the calls that may have an error with arguments that have it, and returns the names of those that do not tell it.
func Missed[A any](calls []Call[A], want api.Errno, spoilt A) []string {
	var names []string
	for _, c := range calls {
		if slices.Contains(c.Errors, want) && c.Run(spoilt) != Error(want) {
			names = append(names, c.Name)
		}
	}
	return names
}
