package pay

import (
	"maps"
	"slices"

	"potbank/api"
	"potbank/trial"
)

// Unsettled returns the pieces that are made, and of which it is open what became of them, as known on a day, rising.
func Unsettled(s api.Shop, known int) ([]int, api.Errno) {
	if e := checkDay(s, known); e != api.OK {
		return nil, e
	}
	all := officeOf(s).on(known)
	return slices.DeleteFunc(slices.Sorted(maps.Keys(all)), func(piece int) bool { return all[piece].outcome != api.Open }), api.OK
}

// Share counts the pieces of a maker, as known on a day, by what became of them.
func Share(s api.Shop, maker, known int) ([]int, api.Errno) {
	if e := checkNumber(s, isMaker(maker), known); e != api.OK {
		return nil, e
	}
	var shares [api.Broken + 1]int
	for _, x := range officeOf(s).on(known) {
		if x.maker == maker {
			shares[x.outcome]++
		}
	}
	return shares[:], api.OK
}

// without returns a shop that has nothing of a source; false if s has nothing of it either.
func without(s api.Shop, source int) (api.Shop, bool) {
	rest := copied(s)
	rest.Events = slices.DeleteFunc(rest.Events, func(x api.Event) bool { return trial.Source(x.At) == source })
	rest.Works = slices.DeleteFunc(rest.Works, func(x api.Work) bool { return x.Source == source })
	rest.Claims = slices.DeleteFunc(rest.Claims, func(c api.Claim) bool { return c.Source == source })
	return rest, len(rest.Events)+len(rest.Works)+len(rest.Claims) < len(s.Events)+len(s.Works)+len(s.Claims)
}

// Moved returns the pieces, rising, of which something else would be known on a day without a source, or which are made in one of both cases alone; ErrNone if nothing has the source.
func Moved(s api.Shop, source, known int) ([]int, api.Errno) {
	if e := checkDay(s, known); e != api.OK {
		return nil, e
	}
	rest, ok := without(s, source)
	if !ok {
		return nil, api.ErrNone
	}
	return others(officeOf(s).on(known), officeOf(rest).on(known)), api.OK
}
