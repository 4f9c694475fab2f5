package trial

import (
	"maps"
	"slices"

	"potbank/api"
	"potbank/heat"
	"potbank/limits"
	"potbank/ware"
)

// told is what Verdict tells of a piece: its result, or its error.
type told struct {
	verdict int
	err     api.Errno
}

// rightHeat returns the Heat that the pieces of an event want; ErrNone if the wares do not have their body.
func rightHeat(w api.Wares, x api.Event) (api.Range, api.Errno) {
	b, e := ware.Body(w, x.Body)
	return b.Heat, e
}

// judge returns what Verdict tells of all pieces of an event that set them.
func (f facts) judge(w api.Wares, x api.Event) told {
	want, e := rightHeat(w, x)
	if e != api.OK {
		return told{err: e}
	}
	verdict, e := heat.Verdict(f.laid[x.Firing].Firing, x.Place, want)
	return told{verdict, e}
}

// judgePiece returns what Verdict tells of a piece.
func (f facts) judgePiece(w api.Wares, piece int) told {
	x, ok := eventOf(f.set, piece)
	if !ok {
		return told{err: api.ErrPiece}
	}
	return f.judge(w, x)
}

// judgedPiece returns what Verdict tells of arguments that need not be valid.
func judgedPiece(w api.Wares, l []api.Event, piece, known int) told {
	if e := ware.Check(w); e != api.OK {
		return told{err: e}
	}
	if e := checkOne(l, limits.IsPiece(piece), known); e != api.OK {
		return told{err: e}
	}
	return factsOf(l, known).judgePiece(w, piece)
}

// Verdict answers whether a piece was fired right, as known on a day.
func Verdict(w api.Wares, l []api.Event, piece, known int) (int, api.Errno) {
	x := judgedPiece(w, l, piece, known)
	return x.verdict, x.err
}

// judgedBatch is knownBatch for functions that take wares, too.
func judgedBatch(w api.Wares, l []api.Event, firing, known int) (facts, api.Batch, api.Errno) {
	if e := ware.Check(w); e != api.OK {
		return facts{}, api.Batch{}, e
	}
	return knownBatch(l, firing, known)
}

// Verdicts returns the verdicts on all pieces of a firing, as known on a day, by their numbers.
func Verdicts(w api.Wares, l []api.Event, firing, known int) ([]api.Judged, api.Errno) {
	f, _, e := judgedBatch(w, l, firing, known)
	if e != api.OK {
		return nil, e
	}
	var all []api.Judged
	for _, x := range f.setIn(firing) {
		v := f.judge(w, x)
		if v.err != api.OK {
			return nil, v.err
		}
		for _, piece := range piecesOf(x) {
			all = append(all, api.Judged{Piece: piece, Verdict: v.verdict})
		}
	}
	return all, api.OK
}

// wantsOf returns one want for each place at which pieces of events are set, by rising places. Its Heat is empty where the bodies of the pieces have none in common.
func wantsOf(w api.Wares, set []api.Event) ([]api.Want, api.Errno) {
	heats := map[int]api.Range{}
	for _, x := range set {
		want, e := rightHeat(w, x)
		if e != api.OK {
			return nil, e
		}
		if r, ok := heats[x.Place]; ok {
			want = api.Range{Lo: max(r.Lo, want.Lo), Hi: min(r.Hi, want.Hi)}
		}
		heats[x.Place] = want
	}
	var wants []api.Want
	for _, place := range slices.Sorted(maps.Keys(heats)) {
		wants = append(wants, api.Want{Place: place, Heat: heats[place]})
	}
	return wants, api.OK
}

func isEmpty(x api.Want) bool { return x.Heat.Lo > x.Heat.Hi }

// Together answers whether all pieces of a firing were fired right, as known on a day.
func Together(w api.Wares, l []api.Event, firing, known int) (int, api.Errno) {
	f, b, e := judgedBatch(w, l, firing, known)
	if e != api.OK {
		return 0, e
	}
	wants, e := wantsOf(w, f.setIn(firing))
	if e != api.OK {
		return 0, e
	}
	if slices.ContainsFunc(wants, isEmpty) {
		_, e := heat.Together(b.Firing, nil)
		return api.No, e
	}
	return heat.Together(b.Firing, wants)
}
