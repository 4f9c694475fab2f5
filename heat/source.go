package heat

import (
	"slices"

	"potbank/api"
	"potbank/clash"
)

// sources returns the sources of readings, rising, each once.
func sources(readings []api.Reading) []int {
	var l []int
	for _, r := range readings {
		l = append(l, r.Source)
	}
	slices.Sort(l)
	return slices.Compact(l)
}

// leftOut returns a firing without the readings whose source is one of those that are out. It shares the kiln with f.
func leftOut(f api.Firing, isOut func(source int) bool) api.Firing {
	readings := slices.DeleteFunc(slices.Clone(f.Readings), func(r api.Reading) bool { return isOut(r.Source) })
	return api.Firing{Kiln: f.Kiln, Readings: readings}
}

// without returns a firing without the readings of a source. It shares the kiln with f.
func without(f api.Firing, source int) api.Firing {
	return leftOut(f, func(s int) bool { return s == source })
}

// Sources returns the sources of all readings of a firing, rising, each once.
func Sources(f api.Firing) ([]int, api.Errno) {
	if e := checkFiring(f); e != api.OK {
		return nil, e
	}
	return sources(f.Readings), api.OK
}

// Without returns a firing without the readings of a source; ErrNone if there are none.
func Without(f api.Firing, source int) (api.Firing, api.Errno) {
	if e := checkFiring(f); e != api.OK {
		return api.Firing{}, e
	}
	rest := without(f, source)
	if len(rest.Readings) == len(f.Readings) {
		return api.Firing{}, api.ErrNone
	}
	return copied(rest), api.OK
}

// contradict returns what reports whether the readings of some sources alone contradict each other.
func contradict(f api.Firing) func(by []int) bool {
	return func(by []int) bool {
		return !isSound(leftOut(f, func(source int) bool { return !slices.Contains(by, source) }))
	}
}

// Conflict returns sources, rising, that contradict each other, and no longer do without any one of them; ErrNone if the firing is sound.
func Conflict(f api.Firing) ([]int, api.Errno) {
	if e := checkFiring(f); e != api.OK {
		return nil, e
	}
	by, do := clash.Of(sources(f.Readings), contradict(f))
	if !do {
		return nil, api.ErrNone
	}
	return by, api.OK
}

// CheckConflict returns OK if by are sources of a firing, strictly increasing, that contradict each other, and no longer do without any one of them; otherwise ErrConflict.
func CheckConflict(f api.Firing, by []int) api.Errno {
	if e := checkFiring(f); e != api.OK {
		return e
	}
	if !clash.Is(by, sources(f.Readings), contradict(f)) {
		return api.ErrConflict
	}
	return api.OK
}
