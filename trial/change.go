package trial

import (
	"maps"
	"slices"

	"potbank/api"
	"potbank/ware"
)

// verdicts are what Verdict tells, of the pieces that are set.
type verdicts map[int]told

func verdictsOf(w api.Wares, f facts) verdicts {
	all := verdicts{}
	for _, x := range f.set {
		v := f.judge(w, x)
		for _, piece := range piecesOf(x) {
			all[piece] = v
		}
	}
	return all
}

// of returns what Verdict tells of any piece.
func (a verdicts) of(piece int) told {
	if v, ok := a[piece]; ok {
		return v
	}
	return told{err: api.ErrPiece}
}

// others returns the pieces of which two tell something else, rising.
func (a verdicts) others(b verdicts) []int {
	pieces := slices.AppendSeq(slices.Collect(maps.Keys(a)), maps.Keys(b))
	slices.Sort(pieces)
	return slices.DeleteFunc(slices.Compact(pieces), func(piece int) bool { return a.of(piece) == b.of(piece) })
}

// checkWares is checkKnown for functions that take wares, too.
func checkWares(w api.Wares, l []api.Event, days ...int) api.Errno {
	if e := ware.Check(w); e != api.OK {
		return e
	}
	return checkKnown(l, days...)
}

// Changed returns the pieces, rising, of which Verdict tells something else as known on later than as known on known.
func Changed(w api.Wares, l []api.Event, known, later int) ([]int, api.Errno) {
	if e := checkWares(w, l, known, later); e != api.OK {
		return nil, e
	}
	return verdictsOf(w, factsOf(l, known)).others(verdictsOf(w, factsOf(l, later))), api.OK
}

// Recalls returns the pieces, rising, that are sold, and of which Verdict tells no, as known on later, and told something else as known on known.
func Recalls(w api.Wares, l []api.Event, known, later int) ([]int, api.Errno) {
	if e := checkWares(w, l, known, later); e != api.OK {
		return nil, e
	}
	then := factsOf(l, later)
	now := verdictsOf(w, then)
	changed := now.others(verdictsOf(w, factsOf(l, known)))
	return slices.DeleteFunc(changed, func(piece int) bool {
		return dayOf(then.sold, piece) == never || now.of(piece) != told{verdict: api.No}
	}), api.OK
}

// Rests returns the entries, in order, of the events without each of which Verdict of a piece would tell something else.
func Rests(w api.Wares, l []api.Event, piece, known int) ([]api.Entry, api.Errno) {
	v := judgedPiece(w, l, piece, known)
	if v.err != api.OK {
		return nil, v.err
	}
	var entries []api.Entry
	for _, x := range l {
		if factsOf(without(l, x.At), known).judgePiece(w, piece) != v {
			entries = append(entries, x.At)
		}
	}
	return entries, api.OK
}

// Moved returns the pieces, rising, of which Verdict would tell something else without the event of an entry; ErrNone if there is none.
func Moved(w api.Wares, l []api.Event, at api.Entry, known int) ([]int, api.Errno) {
	if e := checkWares(w, l, known); e != api.OK {
		return nil, e
	}
	rest := without(l, at)
	if len(rest) == len(l) {
		return nil, api.ErrNone
	}
	return verdictsOf(w, factsOf(l, known)).others(verdictsOf(w, factsOf(rest, known))), api.OK
}
