package desk_test

import (
	"fmt"
	"slices"
	"sort"
	"strings"

	"potbank/api"
	"potbank/book"
	"potbank/clay"
	"potbank/desk"
	"potbank/pay"
	"potbank/saggar"
	"potbank/trial"
	"potbank/ware"
)

// clerk does commands as the chapter's text has it, one after the other.
type clerk struct{ state }

func newClerk() *clerk {
	k := &clerk{}
	for n := range 6 {
		k.houses = append(k.houses, must(book.NewHouse(n)))
	}
	k.setting.Store.Accounts = 2
	return k
}

// do returns the lines of an answer, with line feeds between them.
func (k *clerk) do(c api.Command) string {
	f := formOf(c.Kind)
	if len(f.names) > 0 && f.names[0] == "HOUSE" && (c.Args[0] < 0 || c.Args[0] > 5) {
		return "error 1"
	}
	var answer string
	var e api.Errno
	switch {
	case c.Kind < 20:
		answer, e = "ok", k.setUp(f.word, c.Args)
	case c.Kind < 40:
		answer, e = k.write(f.word, c.Args)
	case c.Kind < 50:
		answer, e = k.carry(f.word, c.Args)
	case c.Kind < 60:
		answer, e = k.reckon(f.word, c.Args)
	default:
		answer, e = k.look(f.word, c.Args)
	}
	if e != api.OK {
		return fmt.Sprint("error ", int(e))
	}
	return answer
}

// put returns a list with v instead of its like, in order, and ErrLong if there are too many.
func put[T any](l []T, v T, keyOf func(v T) int, most int) ([]T, api.Errno) {
	more := []T{v}
	for _, w := range l {
		if keyOf(w) != keyOf(v) {
			more = append(more, w)
		}
	}
	if len(more) > most {
		return l, api.ErrLong
	}
	sort.Slice(more, func(i, j int) bool { return keyOf(more[i]) < keyOf(more[j]) })
	return more, api.OK
}

// add returns a list with v behind it, and ErrLong if it is full.
func add[T any](l []T, v T, most int) ([]T, api.Errno) {
	if len(l) == most {
		return l, api.ErrLong
	}
	return append(slices.Clone(l), v), api.OK
}

func (k *clerk) setUp(word string, n []int) (e api.Errno) {
	s := &k.setting
	switch word {
	case "shape":
		x := api.Shape{Id: n[0], Wide: span(n[1], n[2]), Deep: span(n[3], n[4]), High: span(n[5], n[6]), Nest: n[7], Weight: span(n[8], n[9]), Bears: n[10]}
		if e = ware.CheckShape(x); e == api.OK {
			s.Wares.Shapes, e = put(s.Wares.Shapes, x, func(x api.Shape) int { return x.Id }, 40)
		}
	case "body":
		x := api.Body{Id: n[0], Shrink: span(n[1], n[2]), Loss: span(n[3], n[4]), Heat: span(n[5], n[6])}
		if e = ware.CheckBody(x); e == api.OK {
			s.Wares.Bodies, e = put(s.Wares.Bodies, x, func(x api.Body) int { return x.Id }, 12)
		}
	case "box":
		x := api.Box{Id: n[0], Wide: n[1], Deep: n[2], Cell: n[3], High: n[4], Bears: n[5]}
		if e = saggar.CheckBox(x); e == api.OK {
			s.Box = x
		}
	case "item":
		s.Items, e = add(s.Items, api.Item{Shape: n[0], Many: n[1], Clear: n[2]}, 5)
	case "saggar":
		s.Saggars, e = add(s.Saggars, api.Saggar{Id: n[0], Weight: span(n[1], n[2]), Bears: span(n[3], n[4]), High: span(n[5], n[6]), Tilt: n[7]}, 30)
	case "wad":
		s.Wad = span(n[0], n[1])
	case "spot":
		s.Spot = api.Spot{Crown: n[0], Lean: n[1]}
	case "order":
		s.Orders, e = add(s.Orders, api.Order{Id: n[0], Many: n[1], Heat: span(n[2], n[3]), Class: n[4]}, 8)
	case "seat":
		s.Seats, e = add(s.Seats, api.Seat{Heat: span(n[0], n[1]), Class: n[2], Holds: n[3]}, 24)
	case "accounts":
		if e = clay.Check(api.Store{Accounts: n[0]}); e == api.OK {
			s.Store = api.Store{Accounts: n[0]}
		}
	case "move":
		if st, f := clay.With(s.Store, api.Move{Source: n[0], Day: n[1], From: n[2], To: n[3], Weight: span(n[4], n[5])}); f == api.OK {
			s.Store = st
		} else {
			e = f
		}
	case "count":
		if st, f := clay.Counted(s.Store, api.Count{Source: n[0], Day: n[1], Account: n[2], Weight: span(n[3], n[4])}); f == api.OK {
			s.Store = st
		} else {
			e = f
		}
	case "custom":
		x := api.Custom{Trade: n[0], From: n[1], Basis: n[2], Bears: n[3], Rates: [5]int(n[4:9]), Second: n[9]}
		if e = pay.CheckCustom(x); e == api.OK {
			s.Customs, e = put(s.Customs, x, func(x api.Custom) int { return x.Trade*1000000 + x.From }, 12)
		}
	case "clear":
		s.Items, s.Saggars, s.Orders, s.Seats = nil, nil, nil, nil
	}
	return e
}

// eventOf returns the event that a command says.
func eventOf(word string, n []int) api.Event {
	x := api.Event{Kind: formFor(word).kind - 19, Day: n[1], Known: n[2]}
	switch word {
	case "kiln", "fall":
		x.Firing, x.Mouth, x.Place, x.Fall = n[3], n[4], n[5], span(n[6], n[7])
	case "set":
		x.Firing, x.Place, x.Body, x.First, x.Many = n[3], n[4], n[5], n[6], n[7]
	case "read":
		x.Firing = n[3]
		x.Reading = api.Reading{Place: n[4], Kind: n[5], Mark: n[6], Heat: span(n[7], n[8])}
	case "drawn":
		x.Firing = n[3]
	default:
		x.First, x.Many = n[3], n[4]
	}
	return x
}

// recordOf returns the record that a command writes behind those of a book.
func recordOf(b api.Book, at api.Entry, word string, n []int) (r api.Record, e api.Errno) {
	text := strings.Trim(fmt.Sprint(n[3:]), "[]")
	switch word {
	case "work":
		w := api.Work{Source: trial.Source(at), Maker: n[3], Trade: n[4], Grade: n[5], First: n[6], Many: n[7], Day: n[1], Known: n[2]}
		return api.Record{Kind: 9, Day: n[1], Known: n[2], Text: text}, pay.CheckWork(w)
	case "claim":
		c := api.Claim{Source: trial.Source(at), Maker: n[2], First: n[3], Many: n[4], Known: n[1]}
		return api.Record{Kind: 10, Known: n[1], Text: strings.Trim(fmt.Sprint(n[2:]), "[]")}, pay.CheckClaim(c)
	case "withdraw":
		of := entry(n[0], n[2])
		is := slices.IndexFunc(b.Records, func(r api.Record) bool { return r.At == of })
		if is < 0 {
			return r, api.ErrNone
		}
		if b.Records[is].Kind == 0 || slices.ContainsFunc(b.Records, func(r api.Record) bool { return r.Kind == 0 && r.Of == of }) {
			return r, api.ErrArg
		}
		return api.Record{Known: n[1], Of: of}, api.OK
	}
	x := eventOf(word, n)
	x.At = at
	if word == "read" {
		x.Reading.Source = trial.Source(at)
	}
	text, e = trial.Write(x)
	return api.Record{Kind: x.Kind, Day: x.Day, Known: x.Known, Text: text}, e
}

func (k *clerk) write(word string, n []int) (string, api.Errno) {
	h := &k.houses[n[0]]
	at := entry(n[0], must(book.Have(h.Ledger.Book))[n[0]])
	r, e := recordOf(h.Ledger.Book, at, word, n)
	if e != api.OK {
		return "", e
	}
	house, r, e := book.Note(*h, r)
	if e != api.OK {
		return "", e
	}
	if *h = house; r.At != at {
		panic(r)
	}
	return fmt.Sprint("record ", at.House, " ", at.No), api.OK
}

func (k *clerk) carry(word string, n []int) (string, api.Errno) {
	switch word {
	case "restart":
		h, e := book.Restart(k.houses[n[0]], n[1:])
		if e != api.OK {
			return "", e
		}
		k.houses[n[0]] = h
		return fmt.Sprint("records ", len(h.Ledger.Book.Records)), api.OK
	case "pack":
		h := &k.houses[n[0]]
		disks, l, e := book.Pack(h.Disk, h.Ledger)
		if e != api.OK {
			return "", e
		}
		h.Disk, h.Ledger = disks[4], l
		return fmt.Sprint("records ", len(l.Book.Records)), api.OK
	case "offer":
		h, s, e := book.Offer(k.houses[n[0]], n[1])
		if e == api.OK && len(k.slips) == 40 {
			e = api.ErrLong
		}
		if e != api.OK {
			return "", e
		}
		k.houses[n[0]] = h
		k.slips = append(k.slips, s)
		return fmt.Sprint("slips ", len(k.slips)), api.OK
	}
	if len(k.slips) == 0 {
		return "", api.ErrNone
	}
	i := n[0] % len(k.slips)
	if i < 0 {
		i += len(k.slips)
	}
	return k.pass(word, i)
}

// pass delivers, loses or doubles the slip with an index.
func (k *clerk) pass(word string, i int) (string, api.Errno) {
	s := k.slips[i]
	if word == "double" {
		if len(k.slips) == 40 {
			return "", api.ErrLong
		}
		k.slips = append(slices.Clone(k.slips), s)
		return fmt.Sprint("slips ", len(k.slips)), api.OK
	}
	k.slips = append(slices.Clone(k.slips[:i]), k.slips[i+1:]...)
	if word == "deliver" {
		h, l, e := book.Receive(k.houses[s.To], s)
		if e != api.OK {
			return "", e
		}
		k.houses[s.To] = h
		k.slips = append(k.slips, l...)
	}
	return fmt.Sprint("slips ", len(k.slips)), api.OK
}

// shop returns that of a house, with what naive readings of its book tell.
func (k *clerk) shop(house int) api.Shop {
	b := k.houses[house].Ledger.Book
	return api.Shop{Wares: k.setting.Wares, Customs: k.setting.Customs, Events: eventsOf(b), Works: worksOf(b), Claims: claimsOf(b)}
}

// eventsOf, worksOf and claimsOf are the chapter's definitions.

func eventsOf(b api.Book) []api.Event {
	var l []api.Event
	for _, r := range b.Records {
		x, e := trial.Read(api.Event{At: r.At, Kind: r.Kind, Day: r.Day, Known: r.Known, Of: r.Of}, r.Text)
		if r.Kind <= 8 && e == api.OK {
			l = append(l, x)
		}
	}
	return l
}

// numbersIn returns the numbers of a text of so many; nil if it is none.
func numbersIn(text string, many int) []int {
	words := strings.Split(text, " ")
	l := make([]int, many)
	for i := range min(many, len(words)) {
		fmt.Sscan(words[i], &l[i])
	}
	if strings.Trim(fmt.Sprint(l), "[]") != text {
		return nil
	}
	return l
}

// untilOf returns from which day on a record is withdrawn (0: never); false if it counts on no day.
func untilOf(b api.Book, r api.Record) (int, bool) {
	for _, s := range b.Records {
		if s.Kind == 0 && s.Of == r.At {
			return s.Known, s.Known > r.Known
		}
	}
	return 0, true
}

func worksOf(b api.Book) []api.Work {
	var l []api.Work
	for _, r := range b.Records {
		n := numbersIn(r.Text, 5)
		until, counts := untilOf(b, r)
		if r.Kind != 9 || n == nil || !counts {
			continue
		}
		x := api.Work{Source: 10000*r.At.House + r.At.No + 1, Maker: n[0], Trade: n[1], Grade: n[2], First: n[3], Many: n[4], Day: r.Day, Known: r.Known, Until: until}
		if pay.CheckWork(x) == api.OK {
			l = append(l, x)
		}
	}
	return l
}

func claimsOf(b api.Book) []api.Claim {
	var l []api.Claim
	for _, r := range b.Records {
		n := numbersIn(r.Text, 3)
		until, counts := untilOf(b, r)
		if r.Kind != 10 || n == nil || !counts {
			continue
		}
		x := api.Claim{Source: 10000*r.At.House + r.At.No + 1, Maker: n[0], First: n[1], Many: n[2], Known: r.Known, Until: until}
		if pay.CheckClaim(x) == api.OK {
			l = append(l, x)
		}
	}
	return l
}

func isSameShop(s, t api.Shop) bool {
	return slices.Equal(s.Wares.Shapes, t.Wares.Shapes) && slices.Equal(s.Wares.Bodies, t.Wares.Bodies) && slices.Equal(s.Customs, t.Customs) &&
		slices.Equal(s.Events, t.Events) && slices.Equal(s.Works, t.Works) && slices.Equal(s.Claims, t.Claims)
}

// isAt reports whether a desk has all that the clerk has.
func (k *clerk) isAt(d *desk.Desk) bool {
	for n := range 6 {
		if !isSameShop(d.Shop(n), k.shop(n)) {
			return false
		}
	}
	return isSameState(stateOf(d), k.state)
}
