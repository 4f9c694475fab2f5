package pay_test

import (
	"cmp"
	"math/rand"
	"slices"

	"potbank/api"
	"potbank/pay"
	"potbank/probe"
	"potbank/trial"
)

var (
	span         = probe.Span
	wrongNumbers = probe.WrongNumbers
)

// event returns the event of the house 0 that a text tells.
func event(no, kind, day, known int, text string) api.Event {
	x, e := trial.Read(api.Event{At: api.Entry{No: no}, Kind: kind, Day: day, Known: known}, text)
	if e != api.OK {
		panic(text)
	}
	return x
}

// withdrawal withdraws an event of the house 0.
func withdrawal(no, known, of int) api.Event {
	return api.Event{At: api.Entry{No: no}, Known: known, Of: api.Entry{No: of}}
}

func work(source, first, many, maker, trade, grade, day, known, until int) api.Work {
	return api.Work{Source: source, First: first, Many: many, Maker: maker, Trade: trade, Grade: grade, Day: day, Known: known, Until: until}
}

func claim(source, first, many, maker, known, until int) api.Claim {
	return api.Claim{Source: source, First: first, Many: many, Maker: maker, Known: known, Until: until}
}

// custom returns one whose rates are 0, 100, 200, 300 and 400.
func custom(trade, from, basis, bears, second int) api.Custom {
	return api.Custom{Trade: trade, From: from, Basis: basis, Bears: bears, Rates: [5]int{0, 100, 200, 300, 400}, Second: second}
}

func post(known, piece, from, to, amount int) api.Post {
	return api.Post{Known: known, Piece: piece, From: from, To: to, Amount: amount}
}

// shopS is that of the chapter's examples.
func shopS() api.Shop {
	return api.Shop{
		Wares: api.Wares{Bodies: []api.Body{{Id: 1, Shrink: span(100, 120), Loss: span(50, 60), Heat: span(1000, 1100)}}},
		Events: []api.Event{
			event(0, api.EvKiln, 1, 1, "1 1 2 100 200"), event(1, api.EvSet, 2, 2, "1 0 1 10 3"), event(2, api.EvRead, 3, 3, "1 0 3 0 1010 1020"),
			event(3, api.EvDrawn, 4, 4, "1"), event(4, api.EvSold, 6, 6, "10 2"), event(5, api.EvRead, 3, 9, "1 0 3 0 900 1015"), withdrawal(6, 12, 2),
		},
		Customs: []api.Custom{custom(1, 0, api.ByOven, api.BearsFireman, 500)},
		Works:   []api.Work{work(50, 10, 3, 2, 1, 2, 1, 1, 0)},
	}
}

// copied returns an equal shop that shares no memory with s.
func copied(s api.Shop) api.Shop {
	s.Wares.Shapes, s.Wares.Bodies = slices.Clone(s.Wares.Shapes), slices.Clone(s.Wares.Bodies)
	s.Events, s.Customs, s.Works, s.Claims = slices.Clone(s.Events), slices.Clone(s.Customs), slices.Clone(s.Works), slices.Clone(s.Claims)
	return s
}

func isSame(s, t api.Shop) bool {
	return slices.Equal(s.Wares.Shapes, t.Wares.Shapes) && slices.Equal(s.Wares.Bodies, t.Wares.Bodies) && slices.Equal(s.Events, t.Events) &&
		slices.Equal(s.Customs, t.Customs) && slices.Equal(s.Works, t.Works) && slices.Equal(s.Claims, t.Claims)
}

const (
	lastDay   = 9  // the last one on which something of someShop is, gets known, or ends
	lastPiece = 12 // the last one of someShop
)

// someShop returns a random shop in which little is told of much: few pieces, makers, trades and days.
func someShop(r *rand.Rand) api.Shop {
	s := shopS()
	s.Wares.Bodies = append(s.Wares.Bodies, api.Body{Id: 2, Heat: span(900, 1020)})
	s.Events = []api.Event{event(0, api.EvKiln, 0, r.Intn(3), "1 1 2 100 200")}
	was := 880 + r.Intn(250)
	for no := 1; no < 16; no++ {
		if r.Intn(6) > 0 {
			s.Events = append(s.Events, someEvent(r, no, was))
		}
	}
	s.Customs, s.Works, s.Claims = nil, nil, nil
	for trade := 1; trade <= 3; trade++ {
		for from := r.Intn(4); from < 5; from += 1 + r.Intn(3) {
			c := custom(trade, from, 1+r.Intn(3), 1+r.Intn(3), r.Intn(1001))
			c.Rates = [5]int{r.Intn(3), 7 + r.Intn(10), 999, 1000, 100000}
			s.Customs = append(s.Customs, c)
		}
	}
	for source := 1; source < 30; source++ {
		if r.Intn(4) == 0 {
			s.Works = append(s.Works, someWork(r, source))
		}
		if r.Intn(6) == 0 {
			s.Claims = append(s.Claims, someClaim(r, source))
		}
	}
	return s
}

// words returns the text of numbers.
func words(numbers ...int) string {
	text := ""
	for i, n := range numbers {
		if i > 0 {
			text += " "
		}
		for power := 10000; power > 0; power /= 10 {
			if n >= power || power == 1 {
				text += string(rune('0' + n/power%10))
			}
		}
	}
	return text
}

// somePieces returns the first one of some pieces, and how many they are.
func somePieces(r *rand.Rand, most int) (int, int) {
	many := 1 + r.Intn(most)
	return 1 + r.Intn(lastPiece-many+1), many
}

// someEvent returns one of a firing in which most readings tell of a heat that was.
func someEvent(r *rand.Rand, no, was int) api.Event {
	day, known, place := 1+r.Intn(4), r.Intn(lastDay+1), r.Intn(2)
	first, many := somePieces(r, 6)
	switch r.Intn(12) {
	case 0:
		return withdrawal(no, known, r.Intn(no))
	case 1, 2, 3, 4:
		return event(no, api.EvSet, r.Intn(3), r.Intn(4), words(1, place, 1+r.Intn(5)/2, first, many))
	case 5, 6:
		return event(no, api.EvRead, day, known, words(1, place, api.Ring, 0, was-r.Intn(25), was+r.Intn(25)))
	case 7:
		return event(no, api.EvRead, day, known, words(1, place, 1+r.Intn(2), 850+r.Intn(300), 0, 0))
	case 8, 9:
		return event(no, api.EvDrawn, 2+r.Intn(3), r.Intn(known+1), "1")
	case 10:
		first, many = somePieces(r, lastPiece)
		return event(no, api.EvSecond, day, known, words(first, many))
	}
	return event(no, api.EvBroken, day, known, words(first, 1+many/3))
}

// someUntil returns when something that is known from a day on ends, if it does.
func someUntil(r *rand.Rand, known int) int {
	if known == lastDay || r.Intn(2) > 0 {
		return 0
	}
	return known + 1 + r.Intn(lastDay-known)
}

func someWork(r *rand.Rand, source int) api.Work {
	first, many := somePieces(r, 6)
	known := r.Intn(lastDay + 1)
	return work(source, first, many, 1+r.Intn(3), 1+r.Intn(4), r.Intn(5), r.Intn(6), known, someUntil(r, known))
}

func someClaim(r *rand.Rand, source int) api.Claim {
	first, many := somePieces(r, 6)
	known := r.Intn(lastDay + 1)
	return claim(source, first, many, 1+r.Intn(9), known, someUntil(r, known))
}

// The chapter's definitions follow, of one piece and one day each.

func doesCount(known, until, day int) bool { return known <= day && (until == 0 || until > day) }

func isOf(first, many, piece int) bool { return first <= piece && piece <= first+many-1 }

// made is what is known of a piece that is made.
type made struct {
	work            api.Work
	maker, outcome  int
	isPaid, isFined int
}

// workOf returns the work of a piece; false if it is not made.
func workOf(s api.Shop, piece, day int) (api.Work, bool) {
	var own api.Work
	for _, x := range s.Works {
		if doesCount(x.Known, x.Until, day) && isOf(x.First, x.Many, piece) && (own.Source == 0 || x.Source < own.Source) {
			own = x
		}
	}
	return own, own.Source > 0
}

func makerOf(s api.Shop, own api.Work, piece, day int) int {
	var l []api.Claim
	for _, c := range s.Claims {
		if doesCount(c.Known, c.Until, day) && isOf(c.First, c.Many, piece) {
			l = append(l, c)
		}
	}
	if len(l) == 0 {
		return own.Maker
	}
	return slices.MaxFunc(l, func(c, d api.Claim) int {
		return cmp.Or(cmp.Compare(c.Known, d.Known), cmp.Compare(c.Source, d.Source))
	}).Maker
}

func outcomeOf(s api.Shop, piece, day int) int {
	p, _ := trial.Piece(s.Events, piece, day)
	verdict, e := trial.Verdict(s.Wares, s.Events, piece, day)
	switch {
	case p.Broken >= 0 && (p.Drawn < 0 || p.Broken < p.Drawn):
		return api.Broken
	case p.Drawn < 0 || e != api.OK || verdict == api.Maybe:
		return api.Open
	case verdict == api.Yes && p.Second:
		return api.Second
	case verdict == api.Yes:
		return api.Good
	}
	return api.Waste
}

// customOf returns the custom in force; one of which nothing comes if there is none.
func customOf(s api.Shop, trade, day int) api.Custom {
	in := api.Custom{From: -1}
	for _, c := range s.Customs {
		if c.Trade == trade && c.From <= day && c.From > in.From {
			in = c
		}
	}
	return in
}

// worthOf lists what a rate brings, by what became of a piece.
func worthOf(c api.Custom, rate int) [5]int {
	switch c.Basis {
	case api.ByPiece:
		return [5]int{rate, rate, rate, rate, rate}
	case api.ByHand:
		return [5]int{rate, rate, rate, rate, 0}
	case api.ByOven:
		return [5]int{0, rate, rate * c.Second / 1000, 0, 0}
	}
	return [5]int{}
}

func madeOf(s api.Shop, piece, day int) (made, bool) {
	own, ok := workOf(s, piece, day)
	if !ok {
		return made{}, false
	}
	x := made{work: own, maker: makerOf(s, own, piece, day), outcome: outcomeOf(s, piece, day)}
	c := customOf(s, own.Trade, own.Day)
	x.isPaid = worthOf(c, c.Rates[own.Grade])[x.outcome]
	if x.outcome == api.Waste && c.Bears == api.BearsFireman {
		x.isFined = x.isPaid
	}
	if x.outcome == api.Waste && c.Bears == api.BearsMaker {
		x.isPaid = 0
	}
	return x, true
}

// postsOf lists the postings day by day.
func postsOf(s api.Shop, last int) []api.Post {
	var l []api.Post
	put := func(p api.Post) {
		if p.Amount != 0 {
			l = append(l, p)
		}
	}
	for day := range last + 1 {
		for piece := 1; piece <= lastPiece; piece++ {
			is, _ := madeOf(s, piece, day)
			var was made
			if day > 0 {
				was, _ = madeOf(s, piece, day-1)
			}
			for maker := 1; maker <= 9; maker++ {
				amount := 0
				if is.maker == maker {
					amount += is.isPaid
				}
				if was.maker == maker {
					amount -= was.isPaid
				}
				put(post(day, piece, 0, 1+maker, amount))
			}
			put(post(day, piece, 1, 0, is.isFined-was.isFined))
		}
	}
	return l
}

// without returns a shop that lacks what has a source.
func without(s api.Shop, source int) api.Shop {
	s = copied(s)
	s.Events = slices.DeleteFunc(s.Events, func(x api.Event) bool { return 10000*x.At.House+x.At.No+1 == source })
	s.Works = slices.DeleteFunc(s.Works, func(x api.Work) bool { return x.Source == source })
	s.Claims = slices.DeleteFunc(s.Claims, func(c api.Claim) bool { return c.Source == source })
	return s
}

// claimed returns a shop with more claims, which have sources of their own.
func claimed(s api.Shop, claims ...api.Claim) api.Shop {
	for _, c := range claims {
		var e api.Errno
		if s, e = pay.Claimed(s, c); e != api.OK {
			panic(e)
		}
	}
	return s
}
