package desk

import (
	"slices"

	"potbank/api"
	"potbank/book"
	"potbank/lines"
	"potbank/pay"
	"potbank/trial"
)

// book returns that of a house.
func (a doing) book(house int) api.Book { return a.houses[house].Ledger.Book }

// next returns the entry that the next record of a house gets.
func (a doing) next(house int) api.Entry {
	many := sure(book.Have(a.book(house)))
	return api.Entry{House: house, No: many[house]}
}

// note writes a record of a house.
func (a doing) note(house int, r api.Record) []string {
	h, r, e := book.Note(a.houses[house], r)
	must(e)
	a.houses[house] = h
	return one("record", r.At.House, r.At.No)
}

// event writes the record of an event. The numbers of the command that it does not share with other events are those of its text.
func (a doing) event() []string {
	x := api.Event{Kind: a.Kind - api.CmdKiln + api.EvKiln}
	house := a.readOf(&x.Day, &x.Known)
	x.At = a.next(house)
	x = sure(trial.Read(x, lines.Row(a.Args[3:]...)))
	text := sure(trial.Write(x))
	return a.note(house, api.Record{Kind: x.Kind, Day: x.Day, Known: x.Known, Text: text})
}

func (a doing) work() []string {
	var x api.Work
	house := a.readOf(slices.Concat([]*int{&x.Day, &x.Known}, numbersOfWork(&x))...)
	x.Source = trial.Source(a.next(house))
	must(pay.CheckWork(x))
	return a.note(house, api.Record{Kind: api.RecWork, Day: x.Day, Known: x.Known, Text: lines.Row(a.Args[3:]...)})
}

func (a doing) claim() []string {
	var c api.Claim
	house := a.readOf(slices.Concat([]*int{&c.Known}, numbersOfClaim(&c))...)
	c.Source = trial.Source(a.next(house))
	must(pay.CheckClaim(c))
	return a.note(house, api.Record{Kind: api.RecClaim, Known: c.Known, Text: lines.Row(a.Args[2:]...)})
}

func (a doing) withdraw() []string {
	r := api.Record{Kind: api.RecWithdraw}
	r.Of.House = a.readOf(&r.Known, &r.Of.No)
	l := a.book(r.Of.House).Records
	i := slices.IndexFunc(l, func(s api.Record) bool { return s.At == r.Of })
	ask(i >= 0, api.ErrNone)
	ask(l[i].Kind != api.RecWithdraw && !slices.ContainsFunc(l, withdraws(r.Of)), api.ErrArg)
	return a.note(r.Of.House, r)
}
