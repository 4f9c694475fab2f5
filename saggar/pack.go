package saggar

import (
	"slices"

	"potbank/api"
	"potbank/limits"
)

// isPacking reports whether stands are a packing of items that need so much.
func isPacking(s api.Box, feet []api.Foot, p []api.Stand) bool {
	if len(p) != len(feet) || isTrouble(api.TooHigh, s, feet) || isTrouble(api.TooHeavy, s, feet) {
		return false
	}
	var taken cells
	for i, f := range feet {
		if !isStand(s, f, p[i]) {
			return false
		}
		c := covered(f, p[i])
		if taken.meets(c) {
			return false
		}
		taken = taken.with(c)
	}
	return true
}

// spot is a stand with the cells that its item covers there.
type spot struct {
	stand api.Stand
	cells cells
}

// spots returns, for each item, its stands of the box in order.
func spots(s api.Box, feet []api.Foot) [][]spot {
	all := make([][]spot, len(feet))
	for i, f := range feet {
		for p := range stands(s, f) {
			all[i] = append(all[i], spot{p, covered(f, p)})
		}
	}
	return all
}

// search calls show for each packing, in order, until show says false. It shows them all in the same memory.
func search(s api.Box, feet []api.Foot, show func(p []api.Stand) bool) {
	// Without this, items that cover too much would be tried in every way.
	if hasPlainTrouble(s, feet) {
		return
	}
	all := spots(s, feet)
	p := make([]api.Stand, len(feet))
	// For each item: the index of the spot to be tried next, and the cells that the items ahead of it cover.
	var next [api.MaxItems + 1]int
	var taken [api.MaxItems + 1]cells
	i := 0
search:
	for i >= 0 {
		if i == len(feet) {
			if !show(p) {
				break search
			}
			i--
			continue
		}
		for next[i] < len(all[i]) {
			at := all[i][next[i]]
			next[i]++
			if taken[i].meets(at.cells) {
				continue
			}
			p[i] = at.stand
			taken[i+1] = taken[i].with(at.cells)
			next[i+1] = 0
			i++
			continue search
		}
		i--
	}
}

// nth returns the packing that has n ahead of it; false if there is none.
func nth(s api.Box, feet []api.Foot, n int) ([]api.Stand, bool) {
	var found []api.Stand
	ahead, is := 0, false
	search(s, feet, func(p []api.Stand) bool {
		if ahead == n {
			found, is = slices.Clone(p), true
			return false
		}
		ahead++
		return true
	})
	return found, is
}

// fits reports whether items that need so much have a packing.
func fits(s api.Box, feet []api.Foot) bool {
	// Any order serves here, and the search is the shortest where the greatest items come first.
	greatFirst := slices.Clone(feet)
	slices.SortFunc(greatFirst, func(a, b api.Foot) int { return b.Wide*b.Deep - a.Wide*a.Deep })
	_, is := nth(s, greatFirst, 0)
	return is
}

// CheckPack returns OK if p is a packing of l, and otherwise ErrPack.
func CheckPack(w api.Wares, s api.Box, l []api.Item, p []api.Stand) api.Errno {
	_, e := packed(w, s, l, p)
	return e
}

// packed returns what items need whose packing p is; ErrPack if it is none.
func packed(w api.Wares, s api.Box, l []api.Item, p []api.Stand) ([]api.Foot, api.Errno) {
	feet, e := Feet(w, s, l)
	if e != api.OK {
		return nil, e
	}
	if !isPacking(s, feet, p) {
		return nil, api.ErrPack
	}
	return feet, api.OK
}

// Pack returns the first packing of items; ErrTight if there is none.
func Pack(w api.Wares, s api.Box, l []api.Item) ([]api.Stand, api.Errno) {
	feet, e := Feet(w, s, l)
	if e != api.OK {
		return nil, e
	}
	p, is := nth(s, feet, 0)
	if !is {
		return nil, api.ErrTight
	}
	return p, api.OK
}

// Packs returns how many packings of items there are, but at most MaxPacks.
func Packs(w api.Wares, s api.Box, l []api.Item) (int, api.Errno) {
	feet, e := Feet(w, s, l)
	if e != api.OK {
		return 0, e
	}
	many := 0
	search(s, feet, func([]api.Stand) bool {
		many++
		return many < api.MaxPacks
	})
	return many, api.OK
}

// Nth returns the packing of items that has n ahead of it; ErrNone unless n is from 0 to 1 less than Packs.
func Nth(w api.Wares, s api.Box, l []api.Item, n int) ([]api.Stand, api.Errno) {
	feet, e := Feet(w, s, l)
	if e != api.OK {
		return nil, e
	}
	if !limits.IsBetween(n, 0, api.MaxPacks-1) {
		return nil, api.ErrNone
	}
	p, is := nth(s, feet, n)
	if !is {
		return nil, api.ErrNone
	}
	return p, api.OK
}
