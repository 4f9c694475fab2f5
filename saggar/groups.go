package saggar

import (
	"potbank/api"
	"potbank/parts"
)

// fitting tells of some items, by their indices, whether they have a packing.
func fitting(s api.Box, feet []api.Foot) func(items []int) bool {
	return func(items []int) bool { return fits(s, chosen(feet, items)) }
}

// Groups returns the fewest groups of items each of which has a packing; ErrTight if an item has none by itself.
func Groups(w api.Wares, s api.Box, l []api.Item) ([][]int, api.Errno) {
	feet, e := Feet(w, s, l)
	if e != api.OK {
		return nil, e
	}
	groups, are := parts.Fewest(len(l), fitting(s, feet))
	if !are {
		return nil, api.ErrTight
	}
	return groups, api.OK
}

// CheckGroups returns OK if g are groups of items, and otherwise ErrGroups.
func CheckGroups(w api.Wares, s api.Box, l []api.Item, g [][]int) api.Errno {
	feet, e := Feet(w, s, l)
	if e != api.OK {
		return e
	}
	if !parts.Are(g, len(l)) {
		return api.ErrGroups
	}
	does := fitting(s, feet)
	for _, group := range g {
		if !does(group) {
			return api.ErrGroups
		}
	}
	return api.OK
}
