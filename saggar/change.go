package saggar

import (
	"slices"

	"potbank/api"
	"potbank/limits"
)

// without returns a copy of a list that lacks the element with an index.
func without[T any](l []T, i int) []T {
	return slices.Concat(l[:i], l[i+1:])
}

// Grid returns, row by row, for each cell 1 more than the index of the item that covers it, and 0 if none does.
func Grid(w api.Wares, s api.Box, l []api.Item, p []api.Stand) ([][]int, api.Errno) {
	feet, e := packed(w, s, l, p)
	if e != api.OK {
		return nil, e
	}
	grid := make([][]int, s.Deep)
	for y := range grid {
		grid[y] = make([]int, s.Wide)
	}
	for i, f := range feet {
		forCells(f, p[i], func(y, x int) { grid[y][x] = i + 1 })
	}
	return grid, api.OK
}

// Free returns how many cells no item of a packing covers.
func Free(w api.Wares, s api.Box, l []api.Item, p []api.Stand) (int, api.Errno) {
	feet, e := packed(w, s, l, p)
	if e != api.OK {
		return 0, e
	}
	return s.Wide*s.Deep - area(feet), api.OK
}

// Add returns the first stand at which one more item makes a packing with p; ErrTight if there is none.
func Add(w api.Wares, s api.Box, l []api.Item, p []api.Stand, x api.Item) (api.Stand, api.Errno) {
	feet, e := packed(w, s, l, p)
	if e != api.OK {
		return api.Stand{}, e
	}
	if e := CheckItem(w, x); e != api.OK {
		return api.Stand{}, e
	}
	if len(l) == api.MaxItems {
		return api.Stand{}, api.ErrLong
	}
	f := foot(w, s, x)
	feet = append(feet, f)
	for q := range stands(s, f) {
		if isPacking(s, feet, slices.Concat(p, []api.Stand{q})) {
			return q, api.OK
		}
	}
	return api.Stand{}, api.ErrTight
}

// Take returns items and their packing without the item with an index.
func Take(w api.Wares, s api.Box, l []api.Item, p []api.Stand, i int) ([]api.Item, []api.Stand, api.Errno) {
	if e := CheckPack(w, s, l, p); e != api.OK {
		return nil, nil, e
	}
	if !limits.IsBetween(i, 0, len(l)-1) {
		return nil, nil, api.ErrArg
	}
	return without(l, i), without(p, i), api.OK
}
