package probe_test

import (
	"slices"
	"testing"

	"potbank/api"
	"potbank/probe"
)

// half takes even numbers from 0 to 10: ErrLong beyond them, and ErrArg for odd ones.
func half(n int) (int, api.Errno) {
	if n < 0 || n > 10 {
		return 0, api.ErrLong
	}
	if n%2 != 0 {
		return 0, api.ErrArg
	}
	return n / 2, api.OK
}

func calls(run func(n int) probe.Told) []probe.Call[int] {
	return []probe.Call[int]{probe.Of("half", []api.Errno{api.ErrLong, api.ErrArg}, run)}
}

func spoilt(errors []api.Errno) int {
	n := 4
	if slices.Contains(errors, api.ErrLong) {
		n += 8
	}
	if slices.Contains(errors, api.ErrArg) {
		n++
	}
	return n
}

func TestCalls(t *testing.T) {
	right := calls(func(n int) probe.Told { return probe.Value(half(n)) })
	if l := probe.OutOfOrder(right, spoilt); len(l) != 0 {
		t.Error(l)
	}
	by := calls(func(n int) probe.Told { return probe.By(func(v int) bool { return v == 0 })(half(n)) })
	if l := probe.OutOfOrder(by, spoilt); len(l) != 0 {
		t.Error(l)
	}
	if l := probe.Missed(right, api.ErrArg, 3); len(l) != 0 {
		t.Error(l)
	}
	if l := probe.Missed(right, api.ErrArg, 4); !slices.Equal(l, []string{"half"}) {
		t.Error(l)
	}
	if l := probe.Missed(right, api.ErrDay, 4); len(l) != 0 {
		t.Error("it has no such error", l)
	}
	for _, wrong := range []func(n int) probe.Told{
		func(n int) probe.Told { return probe.Error(api.ErrLong) },
		func(n int) probe.Told { return probe.Error(api.ErrArg) },
		func(n int) probe.Told {
			_, e := half(n)
			return probe.Value(n, e)
		},
		func(n int) probe.Told {
			_, e := half(n)
			return probe.List([]int{n}, e)
		},
		func(n int) probe.Told {
			_, e := half(n)
			return probe.By(func(v int) bool { return v == 4 })(n, e)
		},
	} {
		if l := probe.OutOfOrder(calls(wrong), spoilt); !slices.Contains(l, "half") {
			t.Error(l)
		}
	}
}

func TestWrongNumbersAndRanges(t *testing.T) {
	for _, n := range probe.WrongNumbers(2, 5) {
		if 2 <= n && n <= 5 {
			t.Error(n)
		}
	}
	for _, r := range probe.WrongRanges(2, 5) {
		if 2 <= r.Lo && r.Lo <= r.Hi && r.Hi <= 5 {
			t.Error(r)
		}
	}
	for _, r := range []api.Range{probe.Span(1, 5), probe.Span(2, 6), probe.Span(3, 2)} {
		if !slices.Contains(probe.WrongRanges(2, 5), r) {
			t.Error("none is like", r)
		}
	}
}

func TestChoices(t *testing.T) {
	all := probe.Choices([]int{5, 3, 4})
	want := [][]int{nil, {5}, {3}, {5, 3}, {4}, {5, 4}, {3, 4}, {5, 3, 4}}
	if !slices.EqualFunc(all, want, slices.Equal[[]int]) {
		t.Error(all)
	}
	// Lists that shared memory would be overwritten by later ones.
	many := probe.Choices([]int{1, 2, 3, 4, 5, 6})
	slices.SortFunc(many, slices.Compare[[]int])
	if n := len(slices.CompactFunc(many, slices.Equal[[]int])); n != 64 {
		t.Error(n)
	}
	if all := probe.Choices[string](nil); len(all) != 1 || len(all[0]) != 0 {
		t.Error(all)
	}
}
