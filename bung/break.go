package bung

import (
	"slices"

	"potbank/api"
	"potbank/limits"
)

// Breaks returns the first course of a bung that may break, with the weights that break it; ErrStands if none may.
func Breaks(b api.Bung) (api.Break, api.Errno) {
	if e := Check(b); e != api.OK {
		return api.Break{}, e
	}
	at := slices.IndexFunc(courses(b.Saggars), func(answer int) bool { return answer != api.Yes })
	if at < 0 {
		return api.Break{}, api.ErrStands
	}
	x := api.Break{Course: at, Bears: b.Saggars[at].Bears.Lo}
	for _, s := range b.Saggars[at+1:] {
		x.Weights = append(x.Weights, s.Weight.Hi)
	}
	return x, api.OK
}

// isBreak reports whether x is a break of saggars that stand on one another.
func isBreak(saggars []api.Saggar, x api.Break) bool {
	if !limits.IsBetween(x.Course, 0, len(saggars)-1) {
		return false
	}
	bears, above := saggars[x.Course].Bears, saggars[x.Course+1:]
	if len(x.Weights) != len(above) || !limits.IsBetween(x.Bears, bears.Lo, bears.Hi) {
		return false
	}
	load := 0
	for i, weight := range x.Weights {
		if !limits.IsBetween(weight, above[i].Weight.Lo, above[i].Weight.Hi) {
			return false
		}
		load += weight
	}
	return load > x.Bears
}

// CheckBreak returns OK if x is a break of a bung, and otherwise ErrBreak.
func CheckBreak(b api.Bung, x api.Break) api.Errno {
	if e := Check(b); e != api.OK {
		return e
	}
	if !isBreak(b.Saggars, x) {
		return api.ErrBreak
	}
	return api.OK
}
