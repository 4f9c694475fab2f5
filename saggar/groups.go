package saggar

import "potbank/api"

// parting puts items into at most so many groups, each of which fits a box.
type parting struct {
	box    api.Box
	feet   []api.Foot
	most   int
	groups [][]int
}

// put puts the items from the index i on into groups, by the first way of R6; false, and groups as they were, if there is none.
func (g *parting) put(i int) bool {
	if i == len(g.feet) {
		return true
	}
	for at := range g.groups {
		g.groups[at] = append(g.groups[at], i)
		if fits(g.box, chosen(g.feet, g.groups[at])) && g.put(i+1) {
			return true
		}
		g.groups[at] = g.groups[at][:len(g.groups[at])-1]
	}
	if len(g.groups) == g.most {
		return false
	}
	g.groups = append(g.groups, []int{i})
	if g.put(i + 1) {
		return true
	}
	g.groups = g.groups[:len(g.groups)-1]
	return false
}

// shown returns a copy of the groups: theirs is memory that the search works in.
func (g *parting) shown() [][]int {
	all := make([][]int, 0, len(g.groups))
	for _, group := range g.groups {
		items := make([]int, len(group))
		copy(items, group)
		all = append(all, items)
	}
	return all
}

// Groups returns the fewest groups of items each of which has a packing; ErrTight if an item has none by itself.
func Groups(w api.Wares, s api.Box, l []api.Item) ([][]int, api.Errno) {
	feet, e := Feet(w, s, l)
	if e != api.OK {
		return nil, e
	}
	for i := range feet {
		if !fits(s, feet[i:i+1]) {
			return nil, api.ErrTight
		}
	}
	g := parting{box: s, feet: feet}
	for !g.put(0) {
		g.most++
	}
	return g.shown(), api.OK
}

// CheckGroups returns OK if g are groups of items, and otherwise ErrGroups.
func CheckGroups(w api.Wares, s api.Box, l []api.Item, g [][]int) api.Errno {
	feet, e := Feet(w, s, l)
	if e != api.OK {
		return e
	}
	var in [api.MaxItems]bool
	placed, first := 0, -1
	for _, group := range g {
		if len(group) == 0 || !areIndices(group, len(l)) || group[0] <= first {
			return api.ErrGroups
		}
		first = group[0]
		for _, i := range group {
			if in[i] {
				return api.ErrGroups
			}
			in[i] = true
			placed++
		}
		if !fits(s, chosen(feet, group)) {
			return api.ErrGroups
		}
	}
	if placed != len(l) {
		return api.ErrGroups
	}
	return api.OK
}
