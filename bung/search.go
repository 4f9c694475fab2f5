package bung

import (
	"iter"
	"slices"

	"potbank/api"
)

// choices yields the rising lists of so many of n indices, the first one (R6) first, all in the same memory.
func choices(n, many int) iter.Seq[[]int] {
	return func(yield func([]int) bool) {
		list := make([]int, 0, many)
		var choose func(from int) bool
		choose = func(from int) bool {
			if len(list) == many {
				return yield(list)
			}
			for i := from; i < n; i++ {
				list = append(list, i)
				if !choose(i + 1) {
					return false
				}
				list = list[:len(list)-1]
			}
			return true
		}
		choose(0)
	}
}

// Most returns the indices of the most saggars that stand as one bung in some order.
func Most(l []api.Saggar) ([]int, api.Errno) {
	if e := CheckList(l); e != api.OK {
		return nil, e
	}
	if len(l) > api.MaxSearch {
		return nil, api.ErrMany
	}
	var most []int
search:
	for many := len(l); many > 0; many-- {
		for list := range choices(len(l), many) {
			if stands(ruled(chosen(l, list))) == api.Yes {
				most = slices.Clone(list)
				break search
			}
		}
	}
	return most, api.OK
}

// yard has saggars that are to stand in bungs at a spot, and tells which of them do.
type yard struct {
	wad     api.Range
	saggars []api.Saggar
	spot    api.Spot
}

// checkYard returns the error of the arguments that make a yard.
func checkYard(wad api.Range, l []api.Saggar, s api.Spot) api.Errno {
	if e := checkWad(wad); e != api.OK {
		return e
	}
	if e := CheckList(l); e != api.OK {
		return e
	}
	return CheckSpot(s)
}

// does reports whether the saggars with the indices of a list stand at the spot, by the setter's rule.
func (y yard) does(list []int) bool {
	saggars := ruled(chosen(y.saggars, list))
	return fits(api.Bung{Wad: y.wad, Saggars: saggars}, y.spot) == api.Yes
}

// stacking puts the saggars of a yard into bungs that do.
type stacking struct {
	yard  yard
	bungs [][]int
	tried map[[api.MaxSearch]bool]bool
}

// does tells the same as that of the yard, and remembers it: the search comes to the same list in many ways.
func (t *stacking) does(list []int) bool {
	var has [api.MaxSearch]bool
	for _, i := range list {
		has[i] = true
	}
	does, known := t.tried[has]
	if !known {
		does = t.yard.does(list)
		t.tried[has] = does
	}
	return does
}

// put puts the saggars from the index i on into the bungs, by the first way of R6; false, and the bungs as they were, if there is none.
func (t *stacking) put(i int) bool {
	if i == len(t.yard.saggars) {
		return true
	}
	for at := range t.bungs {
		t.bungs[at] = append(t.bungs[at], i)
		// A bung that does not do would not with more saggars either.
		if t.does(t.bungs[at]) && t.put(i+1) {
			return true
		}
		t.bungs[at] = t.bungs[at][:len(t.bungs[at])-1]
		// What fails in one empty bung fails in the next one too.
		if len(t.bungs[at]) == 0 {
			return false
		}
	}
	return false
}

// Fewest returns saggars in the fewest bungs that do for a wad and a spot; ErrNone if no bungs do.
func Fewest(wad api.Range, l []api.Saggar, s api.Spot) ([][]int, api.Errno) {
	if e := checkYard(wad, l, s); e != api.OK {
		return nil, e
	}
	if len(l) > api.MaxSearch {
		return nil, api.ErrMany
	}
	t := stacking{yard: yard{wad, l, s}, tried: map[[api.MaxSearch]bool]bool{}}
	for i := range l {
		if !t.does([]int{i}) {
			return nil, api.ErrNone
		}
	}
	for !t.put(0) {
		t.bungs = append(t.bungs, nil)
	}
	return t.bungs, api.OK
}

// areBungs reports whether lists are bungs of n saggars.
func areBungs(bungs [][]int, n int) bool {
	var all []int
	first := -1
	for _, bung := range bungs {
		if len(bung) == 0 || bung[0] <= first || !slices.IsSorted(bung) {
			return false
		}
		first = bung[0]
		all = append(all, bung...)
	}
	return len(all) == n && areIndices(all, n)
}

// CheckBungs returns OK if bungs are some of the saggars that do for a wad and a spot; ErrParts if they are no bungs, ErrNone if they do not.
func CheckBungs(wad api.Range, l []api.Saggar, s api.Spot, bungs [][]int) api.Errno {
	if e := checkYard(wad, l, s); e != api.OK {
		return e
	}
	if !areBungs(bungs, len(l)) {
		return api.ErrParts
	}
	y := yard{wad, l, s}
	for _, bung := range bungs {
		if !y.does(bung) {
			return api.ErrNone
		}
	}
	return api.OK
}
