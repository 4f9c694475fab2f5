package heat

import (
	"slices"

	"potbank/api"
)

// greatest returns the greatest heat of a place in all fields that agree with what is told, if any do.
func (t told) greatest(place int) int {
	reached := coldest
	for j := range t.mouths() {
		reached = max(reached, t.tops[j]-t.fall(j, place).Lo)
	}
	return min(reached, t.heats[place].Hi)
}

// least returns the least heat of a place in all fields that agree with what is told, if any do.
func (t told) least(place int) int {
	n := t.heats[place].Lo
	for j := range t.mouths() {
		n = max(n, -t.fall(j, place).Hi)
	}
	for p := range t.heats {
		n = max(n, t.brought(p, place))
	}
	return n
}

// brought returns the least heat that comes to a place from the mouth that gives another one what this has at least. Of the mouths that may do so, one does.
func (t told) brought(other, place int) int {
	n := api.MaxMouth
	for j := range t.mouths() {
		if t.reaches(j, other, t.heats[other].Lo) {
			n = min(n, t.heats[other].Lo+t.fall(j, other).Lo-t.fall(j, place).Hi)
		}
	}
	return n
}

// end returns what finds the greatest heat of a place, if high is true, and otherwise the least one.
func (t told) end(high bool) func(place int) int {
	if high {
		return t.greatest
	}
	return t.least
}

// bound returns the least and the greatest heat of a place.
func (t told) bound(place int) api.Range {
	return api.Range{Lo: t.least(place), Hi: t.greatest(place)}
}

// field returns a field that agrees with what is told, which is sound: all mouths are as hot as they may be, and each place is then as cold as it may be.
func (t told) field() api.Field {
	x := api.Field{Mouths: slices.Clone(t.tops)}
	for j := range t.mouths() {
		falls := make([]int, len(t.heats))
		for p := range falls {
			falls[p] = max(t.tops[j]-t.cold(p), t.fall(j, p).Lo)
		}
		x.Falls = append(x.Falls, falls)
	}
	return x
}

// cold returns the least heat of a place while all mouths are as hot as they may be.
func (t told) cold(place int) int {
	n := t.heats[place].Lo
	for j := range t.mouths() {
		n = max(n, t.tops[j]-t.fall(j, place).Hi)
	}
	return n
}

// tellSound returns what the readings of a valid firing tell; ErrFalse if it is not sound.
func tellSound(f api.Firing) (told, api.Errno) {
	t := tell(f)
	if !t.isSound() {
		return told{}, api.ErrFalse
	}
	return t, api.OK
}

// tellPlace is tellSound for a firing and a place that need not be valid.
func tellPlace(f api.Firing, place int) (told, api.Errno) {
	if e := checkPlace(f, place); e != api.OK {
		return told{}, e
	}
	return tellSound(f)
}

// Sound reports whether some field agrees with a firing.
func Sound(f api.Firing) (bool, api.Errno) {
	if e := checkFiring(f); e != api.OK {
		return false, e
	}
	return isSound(f), api.OK
}

// Hottest returns, for each mouth, the greatest heat that it has in a field that agrees with a sound firing.
func Hottest(f api.Firing) ([]int, api.Errno) {
	if e := checkFiring(f); e != api.OK {
		return nil, e
	}
	t, e := tellSound(f)
	return t.tops, e
}

// Bound returns the least and the greatest heat of a place in all fields that agree with a sound firing.
func Bound(f api.Firing, place int) (api.Range, api.Errno) {
	t, e := tellPlace(f, place)
	if e != api.OK {
		return api.Range{}, e
	}
	return t.bound(place), api.OK
}

// Attain returns a field that agrees with a sound firing in which a place has the greatest heat of Bound, if high is true, and otherwise the least one.
func Attain(f api.Firing, place int, high bool) (api.Field, api.Errno) {
	t, e := tellPlace(f, place)
	if e != api.OK {
		return api.Field{}, e
	}
	end := t.end(high)
	heat := end(place)
	return tell(f, api.Want{Place: place, Heat: api.Range{Lo: heat, Hi: heat}}).field(), api.OK
}

// Moves returns the sources, rising, without the readings of each of which alone Bound of a place is another range.
func Moves(f api.Firing, place int) ([]int, api.Errno) {
	t, e := tellPlace(f, place)
	if e != api.OK {
		return nil, e
	}
	bound := t.bound(place)
	return slices.DeleteFunc(sources(f.Readings), func(source int) bool {
		return tell(without(f, source)).bound(place) == bound
	}), api.OK
}
