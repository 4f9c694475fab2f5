package book_test

import (
	"math/rand"
	"slices"
	"testing"

	"potbank/api"
	"potbank/book"
)

// post is houses with the slips under way, and for each house the book that it must not lose: what was synced with an Offer, a Receive or a Restart.
type post struct {
	houses []api.House
	slips  []api.Slip
	safe   []api.Book
	noted  int
}

func newPost(houses int) *post {
	p := &post{safe: make([]api.Book, houses)}
	for me := range houses {
		p.houses = append(p.houses, newHouse(me))
	}
	return p
}

func (p *post) put(h api.House, l ...api.Slip) {
	p.houses[h.Me] = h
	p.safe[h.Me] = h.Ledger.Book
	p.slips = append(p.slips, l...)
}

// note lets a house note a record that no other one is like.
func (p *post) note(r *rand.Rand, me int) {
	h := p.houses[me]
	x := someRecord(r, entry(me, must(book.Have(h.Ledger.Book))[me]))
	x.Known = p.noted
	p.noted++
	p.houses[me] = noted(h, x)
}

// next lets something happen to a house or to a slip.
func (p *post) next(t *testing.T, r *rand.Rand, most int) {
	me := r.Intn(len(p.houses))
	what := r.Intn(14)
	if what < 4 && p.noted >= most {
		what = 4 + r.Intn(10)
	}
	switch {
	case what < 4:
		p.note(r, me)
	case what < 7:
		h, s := offer(p.houses[me], (me+1+r.Intn(len(p.houses)-1))%len(p.houses))
		p.put(h, s)
	case what == 7:
		p.put(must(book.Restart(p.houses[me], somePicks(r))))
	case len(p.slips) == 0:
		return
	case what == 8:
		p.slips = append(p.slips, p.slips[r.Intn(len(p.slips))])
	default:
		i := r.Intn(len(p.slips))
		s := p.slips[i]
		p.slips = slices.Delete(p.slips, i, i+1)
		if what == 9 {
			return
		}
		h, l, e := book.Receive(p.houses[s.To], s)
		if e != api.OK {
			t.Fatal(s, p.houses[s.To].Ledger, e)
		}
		p.put(h, l...)
	}
}

// check is P9.5.
func (p *post) check(t *testing.T, r *rand.Rand) {
	t.Helper()
	for me, h := range p.houses {
		if book.CheckLedger(h.Disk, h.Ledger) != api.OK {
			t.Fatal(h.Ledger)
		}
		again := must(book.Restart(h, somePicks(r)))
		is, failed := must(book.Have(h.Ledger.Book)), must(book.Have(again.Ledger.Book))
		if !isWithin(p.safe[me], h.Ledger.Book) || !isWithin(p.safe[me], again.Ledger.Book) {
			t.Fatal("something is lost", p.safe[me], h.Ledger)
		}
		for _, other := range p.houses {
			for house, many := range other.Known[me] {
				if is[house] < many || failed[house] < many {
					t.Fatal("another one knows more", other.Known, is, failed)
				}
			}
		}
	}
}

// P9.5.
func TestSlipsGetLost(t *testing.T) {
	r := rand.New(rand.NewSource(23))
	known := 0
	for range 12 {
		p := newPost(2 + r.Intn(5))
		for range 120 {
			p.next(t, r, 50)
			p.check(t, r)
		}
		// What is the same entry is the same record.
		for _, h := range p.houses {
			for _, other := range p.houses {
				if _, e := book.Join(h.Ledger.Book, other.Ledger.Book); e != api.OK {
					t.Fatal(h.Ledger, other.Ledger, e)
				}
				known += other.Known[h.Me][0]
			}
		}
	}
	if known < 50 {
		t.Error("the cases are lopsided", known)
	}
}

// passed lets slips be received by a house, but that some may get lost and others come twice; it returns the answers.
func passed(r *rand.Rand, isSafe bool, h api.House, l ...api.Slip) (api.House, []api.Slip) {
	var all, more []api.Slip
	for _, s := range l {
		times := r.Intn(3)
		if isSafe {
			times = 1
		}
		for range times {
			h, more = receive(h, s)
			all = append(all, more...)
		}
	}
	return h, all
}

// exchange lets two houses offer and receive until no slip has records.
func exchange(t *testing.T, r *rand.Rand, isSafe bool, a, b api.House) (api.House, api.House, int) {
	for rounds := 1; rounds < 200; rounds++ {
		var s, u api.Slip
		var toA, toB []api.Slip
		a, s = offer(a, b.Me)
		b, u = offer(b, a.Me)
		if len(s.Records)+len(u.Records) == 0 {
			return a, b, rounds
		}
		b, toA = passed(r, isSafe, b, s)
		a, toB = passed(r, isSafe, a, u)
		a, _ = passed(r, isSafe, a, toA...)
		b, _ = passed(r, isSafe, b, toB...)
	}
	t.Fatal("there is no end of it")
	return a, b, 0
}

// P9.6.
func TestBooksGetEqual(t *testing.T) {
	r := rand.New(rand.NewSource(24))
	longest, other := 0, 0
	for range 60 {
		p := newPost(2 + r.Intn(5))
		for range r.Intn(150) {
			p.next(t, r, 58)
		}
		x, y := p.houses[0], p.houses[1]
		want := must(book.Join(x.Ledger.Book, y.Ledger.Book))
		a, b, rounds := exchange(t, r, r.Intn(2) == 0, x, y)
		if !isSame(a.Ledger.Book, want) || !isSame(b.Ledger.Book, want) {
			t.Fatal(x.Ledger, y.Ledger, a.Ledger, b.Ledger)
		}
		longest = max(longest, rounds)
		if len(want.Records) > len(x.Ledger.Book.Records) && len(want.Records) > len(y.Ledger.Book.Records) {
			other++
		}
		c := must(book.Restart(a, []int{0}))
		if !isSame(c.Ledger.Book, want) {
			t.Fatal(c.Ledger)
		}
	}
	if longest < 4 || other < 20 {
		t.Error("the cases are lopsided", longest, other)
	}
}
