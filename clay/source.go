package clay

import (
	"slices"

	"potbank/api"
	"potbank/clash"
)

// sources returns the sources of all moves and counts, rising, each once.
func sources(s api.Store) []int {
	return rising(s, func(m api.Move) int { return m.Source }, func(c api.Count) int { return c.Source })
}

// silenced returns a store, of memory of its own, in which those sources are silent: their counts are not there, and their moves may have been of any weight.
func silenced(s api.Store, isSilent func(source int) bool) api.Store {
	s = copied(s)
	for i, m := range s.Moves {
		if isSilent(m.Source) {
			s.Moves[i].Weight = api.Range{Lo: 0, Hi: api.MaxGrams}
		}
	}
	s.Counts = slices.DeleteFunc(s.Counts, func(c api.Count) bool { return isSilent(c.Source) })
	return s
}

// without returns a store in which one source is silent.
func without(s api.Store, source int) api.Store {
	return silenced(s, func(other int) bool { return other == source })
}

// Sources returns the sources of all moves and counts of a store, rising, each once.
func Sources(s api.Store) ([]int, api.Errno) {
	if e := checkStore(s); e != api.OK {
		return nil, e
	}
	return sources(s), api.OK
}

// Without returns a store without what a source tells; ErrNone if it tells nothing.
func Without(s api.Store, source int) (api.Store, api.Errno) {
	if e := checkStore(s); e != api.OK {
		return api.Store{}, e
	}
	if !slices.Contains(sources(s), source) {
		return api.Store{}, api.ErrNone
	}
	return without(s, source), api.OK
}

// contradict returns what reports whether some sources contradict each other while the others are silent.
func contradict(s api.Store) func(by []int) bool {
	return func(by []int) bool {
		return !isEven(silenced(s, func(source int) bool { return !slices.Contains(by, source) }))
	}
}

// Conflict returns sources, rising, that contradict each other, and no longer do if any one of them is silent; ErrNone if the store is even.
func Conflict(s api.Store) ([]int, api.Errno) {
	if e := checkStore(s); e != api.OK {
		return nil, e
	}
	by, do := clash.Of(sources(s), contradict(s))
	if !do {
		return nil, api.ErrNone
	}
	return by, api.OK
}

// CheckConflict returns OK if by are sources of a store, strictly increasing, that contradict each other, and no longer do if any one of them is silent; otherwise ErrSet.
func CheckConflict(s api.Store, by []int) api.Errno {
	if e := checkStore(s); e != api.OK {
		return e
	}
	if !clash.Is(by, sources(s), contradict(s)) {
		return api.ErrSet
	}
	return api.OK
}
