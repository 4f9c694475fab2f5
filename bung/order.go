package bung

import (
	"cmp"
	"slices"

	"potbank/api"
	"potbank/limits"
)

// rule returns the indices of saggars by the setter's rule, from the bottom.
func rule(l []api.Saggar) []int {
	order := make([]int, len(l))
	for i := range order {
		order[i] = i
	}
	slices.SortFunc(order, func(i, j int) int {
		a, b := l[i], l[j]
		return cmp.Or(
			cmp.Compare(b.Weight.Hi+b.Bears.Lo, a.Weight.Hi+a.Bears.Lo),
			cmp.Compare(a.Id, b.Id),
		)
	})
	return order
}

// chosen returns the saggars with some indices.
func chosen(l []api.Saggar, indices []int) []api.Saggar {
	some := make([]api.Saggar, 0, len(indices))
	for _, i := range indices {
		some = append(some, l[i])
	}
	return some
}

// ruled returns saggars in the order of the setter's rule.
func ruled(l []api.Saggar) []api.Saggar { return chosen(l, rule(l)) }

// areIndices reports whether numbers are indices below n, each of which is among them at most once.
func areIndices(numbers []int, n int) bool {
	seen := make([]bool, n)
	for _, i := range numbers {
		if !limits.IsBetween(i, 0, n-1) || seen[i] {
			return false
		}
		seen[i] = true
	}
	return true
}

// Rule returns the indices of saggars by the setter's rule, from the bottom.
func Rule(l []api.Saggar) ([]int, api.Errno) {
	if e := CheckList(l); e != api.OK {
		return nil, e
	}
	return rule(l), api.OK
}

// CanStand reports whether saggars stand as one bung in some order.
func CanStand(l []api.Saggar) (bool, api.Errno) {
	if e := CheckList(l); e != api.OK {
		return false, e
	}
	return stands(ruled(l)) == api.Yes, api.OK
}

// Set returns the bung of the saggars with the indices of order, from the bottom.
func Set(wad api.Range, l []api.Saggar, order []int) (api.Bung, api.Errno) {
	if e := checkWad(wad); e != api.OK {
		return api.Bung{}, e
	}
	if e := CheckList(l); e != api.OK {
		return api.Bung{}, e
	}
	if len(order) == 0 || !areIndices(order, len(l)) {
		return api.Bung{}, api.ErrArg
	}
	return api.Bung{Wad: wad, Saggars: chosen(l, order)}, api.OK
}

// Swap returns a bung with the courses at and at + 1 exchanged.
func Swap(b api.Bung, at int) (api.Bung, api.Errno) {
	if e := Check(b); e != api.OK {
		return api.Bung{}, e
	}
	if !limits.IsBetween(at, 0, len(b.Saggars)-2) {
		return api.Bung{}, api.ErrArg
	}
	saggars := slices.Clone(b.Saggars)
	saggars[at], saggars[at+1] = saggars[at+1], saggars[at]
	return api.Bung{Wad: b.Wad, Saggars: saggars}, api.OK
}

// Top returns a bung with one more saggar on top.
func Top(b api.Bung, s api.Saggar) (api.Bung, api.Errno) {
	if e := Check(b); e != api.OK {
		return api.Bung{}, e
	}
	if e := CheckSaggar(s); e != api.OK {
		return api.Bung{}, e
	}
	if len(b.Saggars) == api.MaxSaggars {
		return api.Bung{}, api.ErrLong
	}
	if hasId(b.Saggars, s.Id) {
		return api.Bung{}, api.ErrSaggar
	}
	return api.Bung{Wad: b.Wad, Saggars: append(slices.Clone(b.Saggars), s)}, api.OK
}
