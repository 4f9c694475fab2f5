package saggar

import (
	"iter"
	"slices"

	"potbank/api"
)

// cells are cells of a floor, as the bits of one number: it has room for MaxSide rows of MaxSide.
type cells uint64

func (c *cells) set(y, x int) { *c |= 1 << (y*api.MaxSide + x) }

func (c cells) with(d cells) cells { return c | d }

func (c cells) meets(d cells) bool { return c&d != 0 }

// sides returns how many cells an item covers in how many rows.
func sides(f api.Foot, turned bool) (wide, deep int) {
	if turned {
		return f.Deep, f.Wide
	}
	return f.Wide, f.Deep
}

// forCells calls do for each cell that an item covers at a stand.
func forCells(f api.Foot, p api.Stand, do func(y, x int)) {
	wide, deep := sides(f, p.Turned)
	for y := range deep {
		for x := range wide {
			do(p.Y+y, p.X+x)
		}
	}
}

// covered returns the cells that an item covers, at a stand of a box.
func covered(f api.Foot, p api.Stand) cells {
	var c cells
	forCells(f, p, c.set)
	return c
}

// stands yields the stands of a box for an item, in order.
func stands(s api.Box, f api.Foot) iter.Seq[api.Stand] {
	ways := []bool{false, true}
	if f.Wide == f.Deep {
		ways = ways[:1]
	}
	return func(yield func(api.Stand) bool) {
		for y := range s.Deep {
			for x := range s.Wide {
				for _, turned := range ways {
					wide, deep := sides(f, turned)
					if x+wide <= s.Wide && y+deep <= s.Deep && !yield(api.Stand{Y: y, X: x, Turned: turned}) {
						return
					}
				}
			}
		}
	}
}

// isStand reports whether a stand is one of a box for an item.
func isStand(s api.Box, f api.Foot, p api.Stand) bool {
	for q := range stands(s, f) {
		if p == q {
			return true
		}
	}
	return false
}

func hasStand(s api.Box, f api.Foot) bool {
	for range stands(s, f) {
		return true
	}
	return false
}

// Stands returns all stands of a box for an item, in order, whatever the item weighs and however high it is.
func Stands(w api.Wares, s api.Box, x api.Item) ([]api.Stand, api.Errno) {
	f, e := Foot(w, s, x)
	if e != api.OK {
		return nil, e
	}
	return slices.Collect(stands(s, f)), api.OK
}
