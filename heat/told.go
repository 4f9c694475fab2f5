package heat

import (
	"slices"

	"potbank/api"
)

// coldest is the least heat that a place can have, as api.MaxMouth is the greatest: a range from the one to the other says nothing.
const coldest = -api.MaxFall

// tellsLeast returns what a reading tells at least, and whether it does.
func tellsLeast(r api.Reading) (int, bool) {
	switch r.Kind {
	case api.Bent:
		return r.Mark, true
	case api.Ring:
		return r.Heat.Lo, true
	}
	return 0, false
}

// tellsMost returns what a reading tells at most, and whether it does.
func tellsMost(r api.Reading) (int, bool) {
	switch r.Kind {
	case api.Standing:
		return r.Mark - 1, true
	case api.Ring:
		return r.Heat.Hi, true
	}
	return 0, false
}

// told is a valid firing with what its readings tell.
type told struct {
	api.Firing
	heats []api.Range // what is told of each place; Lo is greater than Hi where it contradicts itself
	tops  []int       // the greatest heat that each mouth may have; below 0 if it may have none
}

// tell returns what the readings of a valid firing tell, and wants beside them as if they were readings.
func tell(f api.Firing, wants ...api.Want) told {
	t := told{Firing: f, heats: make([]api.Range, len(f.Kiln.Falls[0])), tops: make([]int, len(f.Kiln.Falls))}
	for p := range t.heats {
		t.heats[p] = api.Range{Lo: coldest, Hi: api.MaxMouth}
	}
	for _, r := range t.Readings {
		t.narrow(r.Place, heatOf(r))
	}
	for _, w := range wants {
		t.narrow(w.Place, w.Heat)
	}
	for j := range t.mouths() {
		t.tops[j] = t.top(j)
	}
	return t
}

// heatOf returns the heats that a reading leaves to its place.
func heatOf(r api.Reading) api.Range {
	heat := api.Range{Lo: coldest, Hi: api.MaxMouth}
	if least, ok := tellsLeast(r); ok {
		heat.Lo = least
	}
	if most, ok := tellsMost(r); ok {
		heat.Hi = most
	}
	return heat
}

// narrow notes that the heat of a place lies within a range.
func (t told) narrow(place int, heat api.Range) {
	t.heats[place].Lo = max(t.heats[place].Lo, heat.Lo)
	t.heats[place].Hi = min(t.heats[place].Hi, heat.Hi)
}

func (t told) mouths() int { return len(t.Kiln.Falls) }

func (t told) fall(mouth, place int) api.Range { return t.Kiln.Falls[mouth][place] }

// top returns how hot a mouth may be while no place gets hotter than is told.
func (t told) top(mouth int) int {
	top := api.MaxMouth
	for p, heat := range t.heats {
		top = min(top, heat.Hi+t.fall(mouth, p).Hi)
	}
	return top
}

// reaches reports whether a mouth may give a place so much heat.
func (t told) reaches(mouth, place, heat int) bool {
	return t.tops[mouth]-t.fall(mouth, place).Lo >= heat
}

// isSound reports whether some field agrees with what is told. It is enough to look at the mouths as hot as they may be: colder ones reach no place that these do not. And as each fall is one to one place, each place can be looked at alone.
func (t told) isSound() bool {
	if slices.Min(t.tops) < 0 {
		return false
	}
places:
	for p, heat := range t.heats {
		if heat.Lo > heat.Hi {
			return false
		}
		for j := range t.mouths() {
			if t.reaches(j, p, heat.Lo) {
				continue places
			}
		}
		return false
	}
	return true
}

func isSound(f api.Firing) bool { return tell(f).isSound() }
