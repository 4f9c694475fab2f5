package desk

import (
	"potbank/api"
	"potbank/heat"
	"potbank/lines"
	"potbank/pay"
	"potbank/trial"
)

// events returns those of the book of a house.
func (a doing) events(house int) []api.Event { return sure(Events(a.book(house))) }

// ofEvents returns what the wares and the events of a house tell of two numbers.
func ofEvents[T any](a doing, tell func(w api.Wares, l []api.Event, of, known int) (T, api.Errno)) T {
	var of, known int
	house := a.readOf(&of, &known)
	return sure(tell(a.setting.Wares, a.events(house), of, known))
}

// ofShop returns what the shop of a house tells of two numbers.
func ofShop[T any](a doing, tell func(s api.Shop, of, known int) (T, api.Errno)) T {
	var of, known int
	house := a.readOf(&of, &known)
	return sure(tell(a.Shop(house), of, known))
}

func (a doing) heat() []string {
	var firing, place, known int
	house := a.readOf(&firing, &place, &known)
	return []string{span(sure(trial.Heat(a.events(house), firing, place, known)))}
}

// heated returns the firing and the place that the command asks for, and the end of its heat that is to be shown.
func (a doing) heated() (f api.Firing, place int, high bool, n int) {
	var firing, known, side int
	house := a.readOf(&firing, &place, &known, &side)
	high = isHigh(side)
	l := a.events(house)
	n = endOf(sure(trial.Heat(l, firing, place, known)), high)
	return sure(trial.Batch(l, firing, known)).Firing, place, high, n
}

func (a doing) prove() []string {
	f, place, high, n := a.heated()
	p := sure(heat.Prove(f, place, high))
	return []string{lines.Line("bound", n), lines.Line("proof", append([]int{p.Reading}, p.By...)...)}
}

// showsProof reports whether lines tell a proof that shows what `prove` tells.
func (a doing) showsProof(said []string) bool {
	f, place, high, n := a.heated()
	if len(said) != 1 {
		return false
	}
	numbers, ok := readBehind("proof", said[0])
	if !ok || len(numbers) == 0 {
		return false
	}
	return heat.CheckProof(f, place, high, n, api.HeatProof{Reading: numbers[0], By: numbers[1:]}) == api.OK
}

func (a doing) conflict() []string {
	var firing, known int
	house := a.readOf(&firing, &known)
	b := sure(trial.Batch(a.events(house), firing, known))
	return []string{list(sure(heat.Conflict(b.Firing)))}
}

func (a doing) verdict() []string { return []string{opinion(ofEvents(a, trial.Verdict))} }

func (a doing) verdicts() []string {
	return each(ofEvents(a, trial.Verdicts), func(j api.Judged) string { return lines.Row(j.Piece) + " " + opinion(j.Verdict) })
}

func (a doing) together() []string { return []string{opinion(ofEvents(a, trial.Together))} }

func (a doing) changed() []string { return []string{list(ofEvents(a, trial.Changed))} }

func (a doing) recalls() []string { return []string{list(ofEvents(a, trial.Recalls))} }

func (a doing) moved() []string {
	var known int
	var at api.Entry
	house := a.readOf(&known, &at.House, &at.No)
	return []string{list(sure(trial.Moved(a.setting.Wares, a.events(house), at, known)))}
}

func (a doing) rests() []string {
	return each(ofEvents(a, trial.Rests), func(at api.Entry) string { return lines.Row(at.House, at.No) })
}

func (a doing) due() []string {
	var piece, known int
	house := a.readOf(&piece, &known)
	maker, fireman, e := pay.Due(a.Shop(house), piece, known)
	must(e)
	return []string{lines.Row(maker, fireman)}
}

func (a doing) outcome() []string { return []string{lines.Row(ofShop(a, pay.Outcome))} }

func (a doing) balance() []string { return []string{lines.Row(ofShop(a, pay.Balance))} }

func (a doing) share() []string { return []string{list(ofShop(a, pay.Share))} }

func (a doing) posts() []string {
	var known int
	house := a.readOf(&known)
	return each(sure(pay.Posts(a.Shop(house), known)), func(p api.Post) string {
		return lines.Row(p.Known, p.Piece, p.From, p.To, p.Amount)
	})
}

func (a doing) unsettled() []string {
	var known int
	house := a.readOf(&known)
	return []string{list(sure(pay.Unsettled(a.Shop(house), known)))}
}
