package bung

import (
	"iter"
	"slices"

	"potbank/api"
	"potbank/parts"
)

// choices yields the rising lists of so many of n indices, the first one (R6) first, all in the same memory.
func choices(n, many int) iter.Seq[[]int] {
	return func(yield func([]int) bool) {
		list := make([]int, 0, many)
		var choose func(from int) bool
		choose = func(from int) bool {
			if len(list) == many {
				return yield(list)
			}
			for i := from; i < n; i++ {
				list = append(list, i)
				if !choose(i + 1) {
					return false
				}
				list = list[:len(list)-1]
			}
			return true
		}
		choose(0)
	}
}

// Most returns the indices of the most saggars that stand as one bung in some order.
func Most(l []api.Saggar) ([]int, api.Errno) {
	if e := CheckList(l); e != api.OK {
		return nil, e
	}
	if len(l) > api.MaxSearch {
		return nil, api.ErrMany
	}
	var most []int
search:
	for many := len(l); many > 0; many-- {
		for list := range choices(len(l), many) {
			if stands(ruled(chosen(l, list))) == api.Yes {
				most = slices.Clone(list)
				break search
			}
		}
	}
	return most, api.OK
}

// yard has saggars that are to stand in bungs at a spot, and tells which of them do.
type yard struct {
	wad     api.Range
	saggars []api.Saggar
	spot    api.Spot
}

// checkYard returns the error of the arguments that make a yard.
func checkYard(wad api.Range, l []api.Saggar, s api.Spot) api.Errno {
	if e := checkWad(wad); e != api.OK {
		return e
	}
	if e := CheckList(l); e != api.OK {
		return e
	}
	return CheckSpot(s)
}

// does reports whether the saggars with the indices of a list stand at the spot, by the setter's rule.
func (y yard) does(list []int) bool {
	saggars := ruled(chosen(y.saggars, list))
	return fits(api.Bung{Wad: y.wad, Saggars: saggars}, y.spot) == api.Yes
}

// remembered returns what tells the same as does, and remembers it: a search comes to the same list in many ways.
func (y yard) remembered() func(list []int) bool {
	tried := map[[api.MaxSearch]bool]bool{}
	return func(list []int) bool {
		var has [api.MaxSearch]bool
		for _, i := range list {
			has[i] = true
		}
		does, known := tried[has]
		if !known {
			does = y.does(list)
			tried[has] = does
		}
		return does
	}
}

// Fewest returns saggars in the fewest bungs that do for a wad and a spot; ErrNone if no bungs do.
func Fewest(wad api.Range, l []api.Saggar, s api.Spot) ([][]int, api.Errno) {
	if e := checkYard(wad, l, s); e != api.OK {
		return nil, e
	}
	if len(l) > api.MaxSearch {
		return nil, api.ErrMany
	}
	bungs, do := parts.Fewest(len(l), yard{wad, l, s}.remembered())
	if !do {
		return nil, api.ErrNone
	}
	return bungs, api.OK
}

// CheckBungs returns OK if bungs are some of the saggars that do for a wad and a spot; ErrParts if they are no bungs, ErrNone if they do not.
func CheckBungs(wad api.Range, l []api.Saggar, s api.Spot, bungs [][]int) api.Errno {
	if e := checkYard(wad, l, s); e != api.OK {
		return e
	}
	if !parts.Are(bungs, len(l)) {
		return api.ErrParts
	}
	y := yard{wad, l, s}
	for _, bung := range bungs {
		if !y.does(bung) {
			return api.ErrNone
		}
	}
	return api.OK
}
