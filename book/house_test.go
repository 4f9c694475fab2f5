package book_test

import (
	"math/rand"
	"slices"
	"testing"

	"potbank/api"
	"potbank/book"
	"potbank/probe"
)

func storeOf(h api.House) store { return store{h.Disk, h.Ledger} }

func newHouse(me int) api.House { return must(book.NewHouse(me)) }

// noted returns a house that noted more records.
func noted(h api.House, l ...api.Record) api.House {
	for _, x := range l {
		more, _, e := book.Note(h, x)
		h = must(more, e)
	}
	return h
}

func offer(h api.House, to int) (api.House, api.Slip) {
	h, s, e := book.Offer(h, to)
	must(0, e)
	return h, s
}

func receive(h api.House, s api.Slip) (api.House, []api.Slip) {
	h, l, e := book.Receive(h, s)
	must(0, e)
	return h, l
}

// wrongSlips lists slips for the house 2 that are not valid, or are for other ones.
func wrongSlips() []api.Slip {
	var l []api.Slip
	add := func(spoil func(s *api.Slip)) {
		s := api.Slip{From: 3, To: 2, Have: [6]int{0, 0, 1, 0, 0, 0}, Records: []api.Record{bent()}}
		spoil(&s)
		l = append(l, s)
	}
	for _, n := range append(probe.WrongNumbers(0, 5), 2) {
		add(func(s *api.Slip) { s.From = n })
	}
	for _, n := range append(probe.WrongNumbers(0, 5), 0, 1, 3, 4, 5) {
		add(func(s *api.Slip) { s.To = n })
	}
	for _, n := range probe.WrongNumbers(0, 60) {
		for house := range 6 {
			add(func(s *api.Slip) { s.Have[house] = n })
		}
	}
	add(func(s *api.Slip) { s.Records = slices.Repeat(s.Records, 9) })
	for _, r := range wrongRecords() {
		add(func(s *api.Slip) { s.Records[0] = r })
		add(func(s *api.Slip) { s.Records = append(slices.Repeat(s.Records, 7), r) })
	}
	return l
}

// wrongHouses lists houses that are not valid.
func wrongHouses() []api.House {
	var l []api.House
	add := func(spoil func(h *api.House)) {
		h := noted(newHouse(2), bent())
		spoil(&h)
		l = append(l, h)
	}
	for _, n := range probe.WrongNumbers(0, 5) {
		add(func(h *api.House) { h.Me = n })
	}
	for _, n := range probe.WrongNumbers(0, 60) {
		for one := range 6 {
			for other := range 6 {
				add(func(h *api.House) { h.Known[one][other] = n })
			}
		}
	}
	for _, d := range wrongDisks() {
		add(func(h *api.House) { h.Disk = d })
	}
	add(func(h *api.House) { h.Ledger.Used++ })
	add(func(h *api.House) { h.Ledger.Area = 1 })
	add(func(h *api.House) { h.Ledger.Epoch = 0 })
	add(func(h *api.House) { h.Ledger.Book = api.Book{} })
	add(func(h *api.House) { h.Disk, _ = book.New() })
	add(func(h *api.House) { h.Ledger = api.Ledger{} })
	add(func(h *api.House) { *h = api.House{} })
	add(func(h *api.House) { *halfAt(h.Disk, 0, 0), h.Disk.Wait = half{}, nil })
	return l
}

func TestNewHouse(t *testing.T) {
	for me := range 6 {
		d, l := book.New()
		if h, e := book.NewHouse(me); !isSame(h, api.House{Me: me, Disk: d, Ledger: l}) || e != api.OK {
			t.Error(me, e)
		}
	}
	for _, n := range probe.WrongNumbers(0, 5) {
		if h, e := book.NewHouse(n); !isSame(h, api.House{}) || e != api.ErrArg {
			t.Error(n, e)
		}
	}
}

// The limits of what a house may be known to have are no errors.
func TestLimitsOfHouses(t *testing.T) {
	for _, me := range []int{0, 5} {
		h := newHouse(me)
		for one := range h.Known {
			h.Known[one] = [6]int{60, 60, 60, 60, 60, 60}
		}
		h, x, e := book.Note(h, note(3, 99, 7, 7, "x"))
		if x != note(me, 0, 7, 7, "x") || e != api.OK {
			t.Error(x, e)
		}
		_, s := offer(h, 3)
		if len(s.Records) > 0 {
			t.Error(s)
		}
		s = api.Slip{From: 5 - me, To: me, Have: [6]int{60, 60, 60, 60, 60, 60}, Records: slices.Repeat([]api.Record{note(3, 0, 1, 1, "y")}, 8)}
		if _, l := receive(h, s); len(l) != 1 {
			t.Error(l)
		}
	}
}

func TestNote(t *testing.T) {
	r := rand.New(rand.NewSource(20))
	for range 60 {
		s := someStore(r)
		me := r.Intn(6)
		h := api.House{Me: me, Disk: s.disk, Ledger: s.ledger}
		h.Known[r.Intn(6)][r.Intn(6)] = r.Intn(61)
		x := someRecord(r, entry(me, must(book.Have(s.ledger.Book))[me]))
		told := x
		told.At = entry(r.Intn(9)-2, r.Intn(20)-2)
		want := h
		more := appended(s, x)
		want.Disk, want.Ledger = more.disk, more.ledger
		if h, y, e := book.Note(h, told); !isSame(h, want) || y != x || e != api.OK {
			t.Fatal(x, y, e)
		}
	}
}

// What is noted must be a record once it has its entry.
func TestNoteOfWrongRecords(t *testing.T) {
	h := noted(newHouse(2), bent(), bent())
	for _, x := range []api.Record{
		note(2, 0, 41, 1, ""), note(2, 0, 1, -2, ""), note(2, 0, 1, 1, "\n"), withdrawal(2, 9, 1, 2), withdrawal(2, 9, 1, 5), withdrawal(1, 9, 1, 0), {Kind: 3, Of: entry(0, 1)},
	} {
		if h, y, e := book.Note(h, x); !isSame(h, api.House{}) || y != (api.Record{}) || e != api.ErrRecord {
			t.Error(x, y, e)
		}
	}
	if _, y, e := book.Note(h, withdrawal(2, 0, 1, 1)); y != withdrawal(2, 2, 1, 1) || e != api.OK {
		t.Error(y, e)
	}
}

// offered is what Offer is to tell.
func offered(h api.House, to int) (api.House, api.Slip) {
	s := api.Slip{From: h.Me, To: to, Have: must(book.Have(h.Ledger.Book))}
	for _, x := range h.Ledger.Book.Records {
		if x.At.No >= h.Known[to][x.At.House] {
			s.Records = append(s.Records, x)
		}
	}
	s.Records = s.Records[:min(len(s.Records), 8)]
	h.Disk = book.Sync(h.Disk)
	return h, s
}

// received is what Receive is to tell of a valid slip.
func received(h api.House, s api.Slip) (api.House, []api.Slip, api.Errno) {
	at := storeOf(h)
	for _, x := range s.Records {
		if slices.Contains(at.ledger.Book.Records, x) || x.At.No > must(book.Have(at.ledger.Book))[x.At.House] {
			continue
		}
		var e api.Errno
		if at, e = append1(at, x); e != api.OK {
			return api.House{}, nil, e
		}
	}
	h.Disk, h.Ledger = book.Sync(at.disk), at.ledger
	for house := range 6 {
		h.Known[s.From][house] = max(h.Known[s.From][house], s.Have[house])
	}
	var l []api.Slip
	if len(s.Records) > 0 {
		l = []api.Slip{{From: h.Me, To: s.From, Have: must(book.Have(h.Ledger.Book))}}
	}
	return h, l, api.OK
}

func areSameSlips(a, b []api.Slip) bool {
	return slices.EqualFunc(a, b, func(s, u api.Slip) bool { return isSame(s, u) })
}

// Houses in any state take slips in any state.
func TestOfferAndReceive(t *testing.T) {
	r := rand.New(rand.NewSource(21))
	told := map[api.Errno]int{}
	for range 600 {
		st := someStore(r)
		h := api.House{Me: r.Intn(3), Disk: st.disk, Ledger: st.ledger}
		to := (h.Me + 1 + r.Intn(5)) % 6
		for range 8 {
			h.Known[to][r.Intn(3)] = r.Intn(5)
		}
		want, slip := offered(h, to)
		if h, s, e := book.Offer(h, to); !isSame(h, want) || !isSame(s, slip) || e != api.OK {
			t.Fatal(h.Ledger, s, slip, e)
		}
		// What comes is from another history, or from this one, in any order.
		slip = api.Slip{From: to, To: h.Me}
		from := st.ledger.Book.Records
		if r.Intn(2) == 0 {
			from = someStore(r).ledger.Book.Records
		}
		for range r.Intn(9) {
			if len(from) > 0 && r.Intn(4) > 0 {
				slip.Records = append(slip.Records, from[r.Intn(len(from))])
			} else {
				slip.Records = append(slip.Records, someRecord(r, entry(5, r.Intn(2))))
			}
		}
		for house := range 6 {
			slip.Have[house] = r.Intn(5)
		}
		want, answer, f := received(h, slip)
		h, l, e := book.Receive(h, slip)
		if !isSame(h, want) || !areSameSlips(l, answer) || e != f {
			t.Fatal(slip, h.Ledger, l, answer, e, f)
		}
		told[e]++
	}
	if told[api.OK] < 100 || told[api.ErrTwo] < 100 {
		t.Error("the cases are lopsided", told)
	}
}

func TestReceiveOfWrongSlips(t *testing.T) {
	h := noted(newHouse(2), bent())
	for _, s := range wrongSlips() {
		if h, l, e := book.Receive(h, s); !isSame(h, api.House{}) || len(l) > 0 || e != api.ErrSlip {
			t.Error(s, l, e)
		}
	}
	for _, n := range append(probe.WrongNumbers(0, 5), 2) {
		if h, s, e := book.Offer(h, n); !isSame(h, api.House{}) || !isSame(s, api.Slip{}) || e != api.ErrArg {
			t.Error(n, s, e)
		}
	}
}

// Nothing of a slip is taken if one of its records is refused.
func TestReceiveOfTwo(t *testing.T) {
	h := noted(newHouse(2), bent())
	other := bent()
	other.Known++
	s := api.Slip{From: 3, To: 2, Have: [6]int{1, 1, 1}, Records: []api.Record{note(3, 0, 1, 1, ""), bent(), other}}
	if h, l, e := book.Receive(h, s); !isSame(h, api.House{}) || len(l) > 0 || e != api.ErrTwo {
		t.Error(h, l, e)
	}
	st := newStore()
	for no := range 59 {
		st = appended(st, note(4, no, 1, 1, ""))
	}
	full := api.House{Me: 2, Disk: st.disk, Ledger: st.ledger}
	s.Records = []api.Record{note(3, 0, 1, 1, ""), note(3, 2, 1, 1, "")}
	if h, _, e := book.Receive(full, s); len(h.Ledger.Book.Records) != 60 || e != api.OK {
		t.Error(h.Ledger, e)
	}
	s.Records = append(s.Records, note(3, 1, 1, 1, ""))
	if h, _, e := book.Receive(full, s); !isSame(h, api.House{}) || e != api.ErrLong {
		t.Error(h.Ledger, e)
	}
}

// Of a slip one record may bring the next one of its house.
func TestReceiveInOrder(t *testing.T) {
	l := []api.Record{note(4, 0, 1, 1, "a"), note(4, 1, 1, 1, "b"), note(4, 2, 1, 1, "c")}
	for _, x := range []struct{ order, want []int }{
		{[]int{0, 1, 2}, []int{0, 1, 2}}, {[]int{2, 1, 0}, []int{0}}, {[]int{1, 0, 2, 1, 2}, []int{0, 1, 2}}, {[]int{0, 0, 0, 1}, []int{0, 1}}, {[]int{2, 0, 1}, []int{0, 1}},
	} {
		s := api.Slip{From: 3, To: 2}
		for _, i := range x.order {
			s.Records = append(s.Records, l[i])
		}
		h, answers := receive(newHouse(2), s)
		if !isSame(h.Ledger.Book, bookOf(l[:len(x.want)]...)) || answers[0].Have != ([6]int{4: len(x.want)}) {
			t.Error(x, h.Ledger, answers)
		}
	}
}

func TestRestart(t *testing.T) {
	r := rand.New(rand.NewSource(22))
	for range 100 {
		s := someStore(r)
		h := api.House{Me: r.Intn(6), Disk: s.disk, Ledger: s.ledger}
		h.Known[1][2], h.Known[r.Intn(6)][r.Intn(6)] = 7, 60
		picks := somePicks(r)
		want := crashed(s, picks...)
		if again, e := book.Restart(h, picks); !isSame(again, api.House{Me: h.Me, Disk: want.disk, Ledger: want.ledger}) || e != api.OK {
			t.Fatal(h.Ledger, again.Ledger, e)
		}
	}
	// A failure may lose the head alone that was to be written, and the greatest epoch is the last one.
	h := newHouse(2)
	h.Disk.Wait = []api.Write{{At: 0, Page: h.Disk.Pages[0]}}
	h.Disk.Pages[0] = api.Page{}
	for picks, want := range map[int]api.Errno{0: api.ErrArea, 1: api.OK, 2: api.ErrArea, 3: api.OK} {
		if again, e := book.Restart(h, []int{picks}); e != want || isSame(again, api.House{}) != (e != api.OK) {
			t.Error(picks, e)
		}
	}
	h.Disk.Wait[0].Page[0], h.Ledger.Epoch = headOf(1000000, 0), 1000000
	if again, e := book.Restart(h, []int{3}); e != api.ErrLong || !isSame(again, api.House{}) {
		t.Error(again, e)
	}
}

func TestExampleOfSlips(t *testing.T) {
	two, x, e := book.Note(newHouse(2), bent())
	two, s := offer(two, 3)
	have := [6]int{0, 0, 1, 0, 0, 0}
	if x != bent() || e != api.OK || !isSame(s, api.Slip{From: 2, To: 3, Have: have, Records: []api.Record{bent()}}) {
		t.Fatal(x, e, s)
	}
	three, l := receive(newHouse(3), s)
	if !isSame(three.Ledger.Book, bookOf(bent())) || !areSameSlips(l, []api.Slip{{From: 3, To: 2, Have: have}}) {
		t.Fatal(three.Ledger, l)
	}
	two, none := receive(two, l[0])
	if len(none) > 0 {
		t.Error(none)
	}
	if _, s := offer(two, 3); !isSame(s, api.Slip{From: 2, To: 3, Have: have}) {
		t.Error(s)
	}
	later := bent()
	later.At.No = 1
	four, l := receive(newHouse(4), api.Slip{From: 2, To: 4, Have: [6]int{2: 2}, Records: []api.Record{later}})
	if len(four.Ledger.Book.Records) > 0 || !areSameSlips(l, []api.Slip{{From: 4, To: 2}}) {
		t.Error(four.Ledger, l)
	}
}
