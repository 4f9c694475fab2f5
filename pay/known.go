package pay

import (
	"maps"
	"slices"

	"potbank/api"
	"potbank/limits"
	"potbank/trial"
)

// never is the day of what did not happen to a piece.
const never = -1

// counts reports whether a claim counts, as known on a day.
func counts(c api.Claim, known int) bool {
	return c.Known <= known && (c.Until == 0 || known < c.Until)
}

func has(c api.Claim, piece int) bool { return c.First <= piece && piece < c.First+c.Many }

// worksOn returns the work of each piece that is made, as known on a day. Works rise by their sources, so that of several of one piece the first one holds.
func worksOn(works []api.Work, known int) map[int]api.Work {
	made := map[int]api.Work{}
	for _, x := range slices.Backward(works) {
		if !counts(claimOf(x), known) {
			continue
		}
		for i := range x.Many {
			made[x.First+i] = x
		}
	}
	return made
}

// makerOf returns whose a piece of a work is, as known on a day. Claims rise by their sources, so that of several that got known on one day the last one holds.
func makerOf(x api.Work, claims []api.Claim, piece, known int) int {
	maker, since := x.Maker, 0
	for _, c := range claims {
		if counts(c, known) && has(c, piece) && c.Known >= since {
			maker, since = c.Maker, c.Known
		}
	}
	return maker
}

// became returns what became of a piece, as known on a day.
func became(s api.Shop, piece, known int) int {
	p, _ := trial.Piece(s.Events, piece, known)
	if p.Broken != never && (p.Drawn == never || p.Drawn > p.Broken) {
		return api.Broken
	}
	if p.Drawn == never {
		return api.Open
	}
	verdict, e := trial.Verdict(s.Wares, s.Events, piece, known)
	switch {
	case e != api.OK || verdict == api.Maybe:
		return api.Open
	case verdict == api.No:
		return api.Waste
	case p.Second:
		return api.Second
	}
	return api.Good
}

// facts are what is known on a day of a piece that is made.
type facts struct {
	maker, outcome int
	due            due
}

// question is what became of a piece, as known on a day.
type question struct{ piece, known int }

// office tells what is known of a shop, and keeps what package trial answered. That answers alike for pieces which the same events have, and for days between which nothing of the events gets known.
type office struct {
	api.Shop
	pieces  []int // rising: from each one on, up to the next one, the same events have the pieces
	days    []int // rising: from each one on, up to the next one, nothing of the events gets known
	answers map[question]int
}

// officeOf returns the office of a valid shop.
func officeOf(s api.Shop) office {
	o := office{Shop: s, pieces: []int{1}, days: []int{0}, answers: map[question]int{}}
	for _, x := range s.Events {
		o.pieces = append(o.pieces, x.First, x.First+x.Many)
		o.days = append(o.days, x.Known)
	}
	slices.Sort(o.pieces)
	slices.Sort(o.days)
	return o
}

// lastUpTo returns the greatest number of a rising list that is at most n, which there must be.
func lastUpTo(l []int, n int) int {
	i, _ := slices.BinarySearch(l, n+1)
	return l[i-1]
}

// outcome returns what became of a piece, as known on a day.
func (o office) outcome(piece, known int) int {
	q := question{lastUpTo(o.pieces, piece), lastUpTo(o.days, known)}
	answer, ok := o.answers[q]
	if !ok {
		answer = became(o.Shop, q.piece, q.known)
		o.answers[q] = answer
	}
	return answer
}

// factsOf returns what is known on a day of a piece that a work made.
func (o office) factsOf(x api.Work, piece, known int) facts {
	custom, _ := inForce(o.Customs, x.Trade, x.Day)
	outcome := o.outcome(piece, known)
	return facts{
		maker:   makerOf(x, o.Claims, piece, known),
		outcome: outcome,
		due:     dueOf(custom, x.Grade, outcome),
	}
}

// on returns what is known on a day of each piece that is made.
func (o office) on(known int) map[int]facts {
	all := map[int]facts{}
	for piece, x := range worksOn(o.Works, known) {
		all[piece] = o.factsOf(x, piece, known)
	}
	return all
}

// Made returns the pieces that are made, as known on a day, rising.
func Made(s api.Shop, known int) ([]int, api.Errno) {
	if e := checkDay(s, known); e != api.OK {
		return nil, e
	}
	return slices.Sorted(maps.Keys(worksOn(s.Works, known))), api.OK
}

// factsOf returns what is known on a day of a piece; ErrUnmade if it is not made.
func factsOf(s api.Shop, piece, known int) (facts, api.Errno) {
	if e := checkNumber(s, limits.IsPiece(piece), known); e != api.OK {
		return facts{}, e
	}
	x, ok := worksOn(s.Works, known)[piece]
	if !ok {
		return facts{}, api.ErrUnmade
	}
	return officeOf(s).factsOf(x, piece, known), api.OK
}

// Maker returns whose a piece is, as known on a day.
func Maker(s api.Shop, piece, known int) (int, api.Errno) {
	x, e := factsOf(s, piece, known)
	return x.maker, e
}

// Outcome returns what became of a piece, as known on a day.
func Outcome(s api.Shop, piece, known int) (int, api.Errno) {
	x, e := factsOf(s, piece, known)
	return x.outcome, e
}

// Due returns what the master pays the maker of a piece, and what the fireman pays the master, as known on a day.
func Due(s api.Shop, piece, known int) (maker, fireman int, e api.Errno) {
	x, e := factsOf(s, piece, known)
	return x.due.maker, x.due.fireman, e
}
