package bung

import (
	"iter"
	"slices"

	"potbank/api"
)

// sum returns the range of what things of these ranges are together.
func sum(ranges ...api.Range) api.Range {
	var all api.Range
	for _, r := range ranges {
		all.Lo += r.Lo
		all.Hi += r.Hi
	}
	return all
}

// loads yields the courses from the top down: the index of each, and its load.
func loads(saggars []api.Saggar) iter.Seq2[int, api.Range] {
	return func(yield func(int, api.Range) bool) {
		var load api.Range
		for i, s := range slices.Backward(saggars) {
			if !yield(i, load) {
				return
			}
			load = sum(load, s.Weight)
		}
	}
}

// answer returns whether a saggar bears a load.
func answer(s api.Saggar, load api.Range) int {
	switch {
	case load.Hi <= s.Bears.Lo:
		return api.Yes
	case load.Lo > s.Bears.Hi:
		return api.No
	}
	return api.Maybe
}

// courses returns the answer for each course.
func courses(saggars []api.Saggar) []int {
	answers := make([]int, len(saggars))
	for i, load := range loads(saggars) {
		answers[i] = answer(saggars[i], load)
	}
	return answers
}

// stands returns the answer for all courses together.
func stands(saggars []api.Saggar) int {
	all := api.Yes
	for i, load := range loads(saggars) {
		switch answer(saggars[i], load) {
		case api.No:
			return api.No
		case api.Maybe:
			all = api.Maybe
		}
	}
	return all
}

// height returns the height of saggars with wads between them.
func height(wad api.Range, saggars []api.Saggar) api.Range {
	var high api.Range
	for i, s := range saggars {
		if i > 0 {
			high = sum(high, wad)
		}
		high = sum(high, s.High)
	}
	return high
}

// lean returns by how much the top of a bung may stand off at most.
func lean(b api.Bung) int {
	// In thousandths of a millimetre.
	off := 0
	for i, s := range b.Saggars {
		// The bottom one stands level: what it may lean is no matter of the bung.
		if i > 0 {
			off += s.Tilt * height(b.Wad, b.Saggars[i:]).Hi
		}
	}
	return (off + 999) / 1000
}

// fits returns the answer for a spot.
func fits(b api.Bung, s api.Spot) int {
	high, stand := height(b.Wad, b.Saggars), stands(b.Saggars)
	switch {
	case high.Lo > s.Crown || stand == api.No:
		return api.No
	case high.Hi <= s.Crown && lean(b) <= s.Lean && stand == api.Yes:
		return api.Yes
	}
	return api.Maybe
}

// Loads returns the load of each course of a bung.
func Loads(b api.Bung) ([]api.Range, api.Errno) {
	if e := Check(b); e != api.OK {
		return nil, e
	}
	all := make([]api.Range, len(b.Saggars))
	for i, load := range loads(b.Saggars) {
		all[i] = load
	}
	return all, api.OK
}

// Courses returns for each course of a bung the answer whether it bears its load.
func Courses(b api.Bung) ([]int, api.Errno) {
	if e := Check(b); e != api.OK {
		return nil, e
	}
	return courses(b.Saggars), api.OK
}

// Stands returns the answer whether a bung stands.
func Stands(b api.Bung) (int, api.Errno) {
	if e := Check(b); e != api.OK {
		return 0, e
	}
	return stands(b.Saggars), api.OK
}

// Height returns the height of a bung.
func Height(b api.Bung) (api.Range, api.Errno) {
	if e := Check(b); e != api.OK {
		return api.Range{}, e
	}
	return height(b.Wad, b.Saggars), api.OK
}

// Lean returns by how many millimetres the top of a bung may stand off at most.
func Lean(b api.Bung) (int, api.Errno) {
	if e := Check(b); e != api.OK {
		return 0, e
	}
	return lean(b), api.OK
}

// Fits returns the answer whether a bung may stand at a spot.
func Fits(b api.Bung, s api.Spot) (int, api.Errno) {
	if e := Check(b); e != api.OK {
		return 0, e
	}
	if e := CheckSpot(s); e != api.OK {
		return 0, e
	}
	return fits(b, s), api.OK
}
