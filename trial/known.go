package trial

import (
	"maps"
	"slices"

	"potbank/api"
	"potbank/heat"
	"potbank/limits"
)

func checkDays(days ...int) api.Errno {
	for _, day := range days {
		if !limits.IsDay(day) {
			return api.ErrDay
		}
	}
	return api.OK
}

// checkKnown returns the first error of events, and of days as known on which something is asked of them.
func checkKnown(l []api.Event, days ...int) api.Errno {
	if e := Check(l); e != api.OK {
		return e
	}
	return checkDays(days...)
}

// checkOne is checkKnown for what is asked of a firing or a piece, whose number may be wrong.
func checkOne(l []api.Event, isNumber bool, known int) api.Errno {
	if e := Check(l); e != api.OK {
		return e
	}
	if !isNumber {
		return api.ErrArg
	}
	return checkDays(known)
}

// Standing returns the indices of the events that stand, as known on a day, rising.
func Standing(l []api.Event, known int) ([]int, api.Errno) {
	if e := checkKnown(l, known); e != api.OK {
		return nil, e
	}
	return standing(l, known), api.OK
}

// Void returns the entries of the events that could not be so, in their order.
func Void(l []api.Event, known int) ([]api.Entry, api.Errno) {
	if e := checkKnown(l, known); e != api.OK {
		return nil, e
	}
	void := factsOf(l, known).void
	slices.SortFunc(void, compareEntries)
	return void, api.OK
}

// Dates returns the days on which something became known, rising, each once.
func Dates(l []api.Event) ([]int, api.Errno) {
	if e := Check(l); e != api.OK {
		return nil, e
	}
	days := make([]int, len(l))
	for i, x := range l {
		days[i] = x.Known
	}
	slices.Sort(days)
	return slices.Compact(days), api.OK
}

// Firings returns the firings that are there, as known on a day, rising.
func Firings(l []api.Event, known int) ([]int, api.Errno) {
	if e := checkKnown(l, known); e != api.OK {
		return nil, e
	}
	return slices.Sorted(maps.Keys(factsOf(l, known).laid)), api.OK
}

// knownBatch returns what is known on a day, and a firing; ErrBatch if that is not there.
func knownBatch(l []api.Event, firing, known int) (facts, api.Batch, api.Errno) {
	if e := checkOne(l, isFiring(firing), known); e != api.OK {
		return facts{}, api.Batch{}, e
	}
	f := factsOf(l, known)
	b, ok := f.laid[firing]
	if !ok {
		return facts{}, api.Batch{}, api.ErrBatch
	}
	return f, b, api.OK
}

// Batch returns a firing, as known on a day.
func Batch(l []api.Event, firing, known int) (api.Batch, api.Errno) {
	_, b, e := knownBatch(l, firing, known)
	return b, e
}

// Heat returns the range of the heat of a place of a firing, as known on a day.
func Heat(l []api.Event, firing, place, known int) (api.Range, api.Errno) {
	_, b, e := knownBatch(l, firing, known)
	if e != api.OK {
		return api.Range{}, e
	}
	return heat.Bound(b.Firing, place)
}

// Piece returns what is known of a piece on a day.
func Piece(l []api.Event, no, known int) (api.Piece, api.Errno) {
	if e := checkOne(l, limits.IsPiece(no), known); e != api.OK {
		return api.Piece{}, e
	}
	return factsOf(l, known).piece(no), api.OK
}

// Pieces returns the pieces that are set in a firing, as known on a day, rising.
func Pieces(l []api.Event, firing, known int) ([]int, api.Errno) {
	f, _, e := knownBatch(l, firing, known)
	if e != api.OK {
		return nil, e
	}
	var pieces []int
	for _, x := range f.setIn(firing) {
		pieces = append(pieces, piecesOf(x)...)
	}
	return pieces, api.OK
}
