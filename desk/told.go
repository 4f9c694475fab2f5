package desk

import (
	"slices"

	"potbank/api"
	"potbank/book"
	"potbank/lines"
	"potbank/pay"
	"potbank/trial"
)

// withdraws returns a function that reports of a record whether it withdraws the one of an entry.
func withdraws(at api.Entry) func(r api.Record) bool {
	return func(r api.Record) bool { return r.Kind == api.RecWithdraw && r.Of == at }
}

// numbersOfWork points to the numbers of a work that the text of its record has, in their order.
func numbersOfWork(x *api.Work) []*int {
	return []*int{&x.Maker, &x.Trade, &x.Grade, &x.First, &x.Many}
}

// numbersOfClaim is what numbersOfWork is for a work.
func numbersOfClaim(c *api.Claim) []*int { return []*int{&c.Maker, &c.First, &c.Many} }

// untilOf returns the day from which on a record of a book is withdrawn (0: it is not); false if it is so as soon as it is known.
func untilOf(b api.Book, r api.Record) (int, bool) {
	i := slices.IndexFunc(b.Records, withdraws(r.At))
	if i < 0 {
		return 0, true
	}
	until := b.Records[i].Known
	return until, until > r.Known
}

// counted returns what the records of a kind that a book has tell, but those that count on no day; read reports whether a record tells something.
func counted[T any](b api.Book, kind int, read func(r api.Record, until int) (T, bool)) ([]T, api.Errno) {
	if e := book.Check(b); e != api.OK {
		return nil, e
	}
	var l []T
	for _, r := range b.Records {
		until, counts := untilOf(b, r)
		if r.Kind != kind || !counts {
			continue
		}
		if v, is := read(r, until); is {
			l = append(l, v)
		}
	}
	return l, api.OK
}

// Events returns the events of a book.
func Events(b api.Book) ([]api.Event, api.Errno) {
	if e := book.Check(b); e != api.OK {
		return nil, e
	}
	var l []api.Event
	for _, r := range b.Records {
		x, e := trial.Read(api.Event{At: r.At, Kind: r.Kind, Day: r.Day, Known: r.Known, Of: r.Of}, r.Text)
		if e == api.OK {
			l = append(l, x)
		}
	}
	return l, api.OK
}

// Works returns the works of a book.
func Works(b api.Book) ([]api.Work, api.Errno) {
	return counted(b, api.RecWork, func(r api.Record, until int) (api.Work, bool) {
		x := api.Work{Source: trial.Source(r.At), Day: r.Day, Known: r.Known, Until: until}
		is := lines.Fill(r.Text, numbersOfWork(&x)...)
		return x, is && pay.CheckWork(x) == api.OK
	})
}

// Claims returns the claims of a book.
func Claims(b api.Book) ([]api.Claim, api.Errno) {
	return counted(b, api.RecClaim, func(r api.Record, until int) (api.Claim, bool) {
		c := api.Claim{Source: trial.Source(r.At), Known: r.Known, Until: until}
		is := lines.Fill(r.Text, numbersOfClaim(&c)...)
		return c, is && pay.CheckClaim(c) == api.OK
	})
}
