package heat

import (
	"potbank/api"
	"potbank/limits"
)

// areFalls reports whether each of the falls from a mouth is one of its range.
func areFalls(falls []int, ranges []api.Range) bool {
	if len(falls) != len(ranges) {
		return false
	}
	for p, r := range ranges {
		if !limits.IsBetween(falls[p], r.Lo, r.Hi) {
			return false
		}
	}
	return true
}

// isField reports whether a field is one of a valid kiln.
func isField(k api.Kiln, x api.Field) bool {
	if len(x.Mouths) != len(k.Falls) || len(x.Falls) != len(k.Falls) {
		return false
	}
	for j := range len(k.Falls) {
		if !limits.IsBetween(x.Mouths[j], 0, api.MaxMouth) || !areFalls(x.Falls[j], k.Falls[j]) {
			return false
		}
	}
	return true
}

// heatAt returns the heat of a place in a field of a kiln.
func heatAt(x api.Field, place int) int {
	hottest := x.Mouths[0] - x.Falls[0][place]
	for j := range len(x.Mouths) {
		hottest = max(hottest, x.Mouths[j]-x.Falls[j][place])
	}
	return hottest
}

// Heats returns the heat of each place in a field.
func Heats(k api.Kiln, x api.Field) ([]int, api.Errno) {
	if e := CheckKiln(k); e != api.OK {
		return nil, e
	}
	if !isField(k, x) {
		return nil, api.ErrField
	}
	heats := make([]int, len(k.Falls[0]))
	for p := range heats {
		heats[p] = heatAt(x, p)
	}
	return heats, api.OK
}

// CheckField returns OK if a field agrees with a firing, and otherwise ErrField.
func CheckField(f api.Firing, x api.Field) api.Errno {
	if e := checkFiring(f); e != api.OK {
		return e
	}
	if !isField(f.Kiln, x) {
		return api.ErrField
	}
	for p, heat := range tell(f).heats {
		if !limits.IsBetween(heatAt(x, p), heat.Lo, heat.Hi) {
			return api.ErrField
		}
	}
	return api.OK
}
