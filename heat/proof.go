package heat

import (
	"math"
	"slices"

	"potbank/api"
	"potbank/limits"
)

// What a proof has instead of the index of a reading. As Reading:
const (
	noReading = -1 // the limits of mouths, and what By has
	byMouth   = -2 // the mouth that By has
)

// In By, where it shows that a heat is at least a number:
const (
	hotEnough = -1 // the mouth would make the place so hot
	tooHot    = -2 // no mouth is as hot as this one would be
)

// reading returns the reading with this index; if there is none, one that tells nothing.
func (t told) reading(i int) api.Reading {
	if !limits.IsBetween(i, 0, len(t.Readings)-1) {
		return api.Reading{}
	}
	return t.Readings[i]
}

// topBy returns the greatest heat that a mouth may have by the reading with this index; false if that tells no greatest heat.
func (t told) topBy(mouth, i int) (int, bool) {
	r := t.reading(i)
	most, ok := tellsMost(r)
	return most + t.fall(mouth, r.Place).Hi, ok
}

// shownMost returns the least number that a proof shows the heat of a place to be at most; false if it shows none.
func (t told) shownMost(place int, p api.HeatProof) (int, bool) {
	if p.Reading == noReading {
		return t.shownByTops(place, p.By)
	}
	r := t.reading(p.Reading)
	most, ok := tellsMost(r)
	return most, ok && r.Place == place && len(p.By) == 0
}

// shownByTops returns the least number that the heat of a place is at most by readings, one for each mouth, that tell how hot it may be.
func (t told) shownByTops(place int, by []int) (int, bool) {
	if len(by) != t.mouths() {
		return 0, false
	}
	n := coldest
	for j := range t.mouths() {
		top := api.MaxMouth
		if by[j] != noReading {
			hottest, ok := t.topBy(j, by[j])
			if !ok {
				return 0, false
			}
			top = hottest
		}
		n = max(n, top-t.fall(j, place).Lo)
	}
	return n, true
}

// shownLeast returns the greatest number that a proof shows the heat of a place to be at least; false if it shows none.
func (t told) shownLeast(place int, p api.HeatProof) (int, bool) {
	if p.Reading == byMouth {
		if len(p.By) != 1 || !limits.IsBetween(p.By[0], 0, t.mouths()-1) {
			return 0, false
		}
		return -t.fall(p.By[0], place).Hi, true
	}
	r := t.reading(p.Reading)
	least, ok := tellsLeast(r)
	if r.Place == place {
		return least, ok && len(p.By) == 0
	}
	if !ok || len(p.By) != t.mouths() {
		return 0, false
	}
	return t.shownByHeat(place, r.Place, least, p.By)
}

// shownByHeat returns the greatest number that the heat of a place is at least since another one has a heat: of each mouth it is told that it makes the place so hot, or why it cannot have given the other one that heat. If no mouth can, any number is shown.
func (t told) shownByHeat(place, other, heat int, by []int) (int, bool) {
	n := math.MaxInt
	for j := range t.mouths() {
		needed := heat + t.fall(j, other).Lo
		switch by[j] {
		case hotEnough:
			n = min(n, needed-t.fall(j, place).Hi)
		case tooHot:
			if needed <= api.MaxMouth {
				return 0, false
			}
		default:
			if top, ok := t.topBy(j, by[j]); !ok || needed <= top {
				return 0, false
			}
		}
	}
	return n, true
}

// topper returns the index of the reading by which a mouth may be no hotter than it may be; noReading if this is the limit of all mouths.
func (t told) topper(mouth int) int {
	reading, least := noReading, api.MaxMouth
	for i := range t.Readings {
		if top, ok := t.topBy(mouth, i); ok && top < least {
			reading, least = i, top
		}
	}
	return reading
}

// byTops returns, for each mouth, the reading that tells how hot it may be.
func (t told) byTops() []int {
	by := make([]int, t.mouths())
	for j := range t.mouths() {
		by[j] = t.topper(j)
	}
	return by
}

// byHeat returns, for each mouth, why it cannot have given a place a heat, or hotEnough if it can.
func (t told) byHeat(place, heat int) []int {
	by := make([]int, t.mouths())
	for j := range t.mouths() {
		switch {
		case heat+t.fall(j, place).Lo > api.MaxMouth:
			by[j] = tooHot
		case t.reaches(j, place, heat):
			by[j] = hotEnough
		default:
			by[j] = t.topper(j)
		}
	}
	return by
}

// proofs returns what may be proofs for a place; one of them shows the end of its range.
func (t told) proofs(place int, high bool) []api.HeatProof {
	var l []api.HeatProof
	for i, r := range t.Readings {
		if r.Place == place {
			l = append(l, api.HeatProof{Reading: i})
		}
	}
	if high {
		return append(l, api.HeatProof{Reading: noReading, By: t.byTops()})
	}
	for j := range t.mouths() {
		l = append(l, api.HeatProof{Reading: byMouth, By: []int{j}})
	}
	for i, r := range t.Readings {
		if least, ok := tellsLeast(r); ok && r.Place != place {
			l = append(l, api.HeatProof{Reading: i, By: t.byHeat(r.Place, least)})
		}
	}
	return l
}

// shown returns what finds the number that a proof shows a heat to be at most, if high is true, and otherwise at least.
func (t told) shown(high bool) func(place int, p api.HeatProof) (int, bool) {
	if high {
		return t.shownMost
	}
	return t.shownLeast
}

// Prove returns a proof that shows, of a sound firing, that the heat of a place is at most the greatest one of Bound, if high is true, and otherwise that it is at least the least one.
func Prove(f api.Firing, place int, high bool) (api.HeatProof, api.Errno) {
	t, e := tellPlace(f, place)
	if e != api.OK {
		return api.HeatProof{}, e
	}
	end, shown := t.end(high), t.shown(high)
	heat, proofs := end(place), t.proofs(place, high)
	at := slices.IndexFunc(proofs, func(p api.HeatProof) bool {
		n, ok := shown(place, p)
		return ok && n == heat
	})
	return proofs[at], api.OK
}

// CheckProof returns OK if p shows that the heat of a place is at most n, if high is true, and otherwise at least n; ErrShown if it shows this for other numbers, and otherwise ErrProof. The firing need not be sound.
func CheckProof(f api.Firing, place int, high bool, n int, p api.HeatProof) api.Errno {
	if e := checkPlace(f, place); e != api.OK {
		return e
	}
	shown := tell(f).shown(high)
	end, ok := shown(place, p)
	switch {
	case !ok:
		return api.ErrProof
	case high && n < end, !high && n > end:
		return api.ErrShown
	}
	return api.OK
}

// Rests returns the sources, rising, each once, of the readings that a proof has; ErrProof if it has one that there is not.
func Rests(f api.Firing, p api.HeatProof) ([]int, api.Errno) {
	if e := checkFiring(f); e != api.OK {
		return nil, e
	}
	switch {
	case p.Reading < byMouth:
		return nil, api.ErrProof
	case p.Reading == byMouth:
		return nil, api.OK
	}
	var readings []api.Reading
	for _, i := range append([]int{p.Reading}, p.By...) {
		if i >= len(f.Readings) {
			return nil, api.ErrProof
		}
		if i >= 0 {
			readings = append(readings, f.Readings[i])
		}
	}
	return sources(readings), api.OK
}
