package book_test

import (
	"math/rand"
	"slices"
	"testing"

	"potbank/api"
	"potbank/book"
)

// history is a store with what P9.4 says of it: the records that are safe, and those that were appended since, in this order.
type history struct {
	store
	safe  api.Book
	since []api.Record
	tried int
}

func newHistory() history { return history{store: newStore()} }

// isBeginning reports whether a book has all that is safe, and besides a beginning of what was appended since.
func (h history) isBeginning(b api.Book) bool {
	more := h.safe
	for _, x := range h.since {
		if isSame(more, b) {
			return true
		}
		more = must(book.Add(more, x))
	}
	return isSame(more, b)
}

// check fails the power by picks.
func (h history) check(t *testing.T, d api.Disk, picks []int) api.Book {
	t.Helper()
	s, e := open(book.Crash(d, picks))
	if e != api.OK || !h.isBeginning(s.ledger.Book) {
		t.Fatal(e, s.ledger, h.safe, h.since, picks)
	}
	if book.CheckLedger(s.disk, s.ledger) != api.OK {
		t.Fatal("no ledger of its disk", s.ledger)
	}
	return s.ledger.Book
}

// allPicks lists all that so many writes may come to.
func allPicks(writes int) [][]int {
	all := [][]int{nil}
	for range writes {
		var more [][]int
		for _, picks := range all {
			for n := range 4 {
				more = append(more, append(slices.Clone(picks), n))
			}
		}
		all = more
	}
	return all
}

func somePicks(r *rand.Rand) []int {
	l := make([]int, 1+r.Intn(12))
	lost := r.Intn(4)
	for i := range l {
		if l[i] = r.Intn(4); r.Intn(4) == 0 {
			l[i] = lost
		}
	}
	return l
}

// someFailures are all failures if few writes wait, and otherwise random ones.
func someFailures(r *rand.Rand, writes, most int) [][]int {
	if writes <= most {
		return allPicks(writes)
	}
	l := [][]int{{0}, {3}, {1}, {2}}
	for range 6 {
		l = append(l, somePicks(r))
	}
	return l
}

// next does something with a store. Each record that is tried is another one, so that one that comes back is found out.
func (h history) next(t *testing.T, r *rand.Rand) history {
	b := h.ledger.Book
	what := r.Intn(12)
	if len(b.Records) >= 20 && what > 4 {
		what = r.Intn(5)
	}
	switch what {
	case 0:
		h.store = synced(h.store)
		h.safe, h.since = b, nil
	case 1:
		h.store = packed(h.store)
		h.safe, h.since = b, nil
	case 2, 3:
		h.store = crashed(h.store, somePicks(r)...)
		if !h.isBeginning(h.ledger.Book) {
			t.Fatal(h.ledger, h.safe, h.since)
		}
		h.safe, h.since = h.ledger.Book, nil
	case 4:
		h.store = must(open(h.disk))
		h.safe, h.since = h.ledger.Book, nil
	default:
		house := r.Intn(3)
		x := someRecord(r, entry(house, must(book.Have(b))[house]))
		x.Known, h.tried = h.tried, h.tried+1
		h.store = appended(h.store, x)
		h.since = append(slices.Clone(h.since), x)
	}
	return h
}

// P9.4.
func TestPowerFails(t *testing.T) {
	r := rand.New(rand.NewSource(17))
	cut, whole, safe := 0, 0, 0
	for range 30 {
		h := newHistory()
		for range 40 {
			h = h.next(t, r)
			checkStore(t, h.store)
			if !h.isBeginning(h.ledger.Book) {
				t.Fatal(h.ledger)
			}
			for _, picks := range someFailures(r, len(h.disk.Wait), 1) {
				switch b := h.check(t, h.disk, picks); len(b.Records) {
				case len(h.ledger.Book.Records):
					whole++
				case len(h.safe.Records):
					safe++
				default:
					cut++
				}
			}
		}
	}
	if cut < 100 || whole < 100 || safe < 100 {
		t.Error("the cases are lopsided", cut, whole, safe)
	}
}

// P9.4, of all failures of few writes.
func TestPowerFailsInAllWays(t *testing.T) {
	r := rand.New(rand.NewSource(18))
	for range 4 {
		h := newHistory()
		for range 12 {
			h = h.next(t, r)
			if n := len(h.disk.Wait); n > 0 && n <= 4 {
				for _, picks := range allPicks(n) {
					h.check(t, h.disk, picks)
				}
			}
		}
	}
}

// P9.4, of the disks on the way of a Pack: from the first one on nothing is lost.
func TestPowerFailsWhilePacking(t *testing.T) {
	r := rand.New(rand.NewSource(19))
	for range 30 {
		h := newHistory()
		for range 1 + r.Intn(20) {
			h = h.next(t, r)
		}
		ways, _, e := book.Pack(h.disk, h.ledger)
		if e != api.OK {
			t.Fatal(e)
		}
		for _, d := range ways {
			for _, picks := range someFailures(r, len(d.Wait), 2) {
				s := must(open(book.Crash(d, picks)))
				if !isSame(s.ledger.Book, h.ledger.Book) {
					t.Fatal(s.ledger, h.ledger)
				}
				// It goes on from there, and packs again.
				h := history{store: s, safe: h.ledger.Book, tried: h.tried}
				for range 3 {
					h = h.next(t, r)
				}
				h.check(t, h.disk, somePicks(r))
				h.store = packed(h.store)
				h.safe, h.since = h.ledger.Book, nil
				h.check(t, h.disk, somePicks(r))
			}
		}
	}
}

// What was tried ahead of failures, and left behind in parts, never comes back, whatever is written over it.
func TestNothingComesBack(t *testing.T) {
	long, short := note(2, 0, 1, 1, someTextOf(60).Text), note(2, 0, 2, 2, "")
	next := note(2, 1, 3, 3, someTextOf(60).Text)
	for _, picks := range allPicks(3) {
		// Four halves are tried, and four behind them; what is left of them is found behind a shorter record.
		s := appended(newStore(), long, next)
		for _, more := range [][]int{{3, 3}, {0, 3}, {3, 0}, {1, 2}, {2, 1}} {
			s := crashed(s, append(slices.Clone(picks), more...)...)
			if len(s.ledger.Book.Records) > 0 {
				continue
			}
			s = synced(appended(s, short))
			again := crashed(s)
			if !isSame(again.ledger.Book, bookOf(short)) {
				t.Fatal(picks, more, again.ledger)
			}
			again = crashed(appended(again, note(2, 1, 4, 4, "")), 3)
			if len(again.ledger.Book.Records) != 2 {
				t.Fatal(picks, more, again.ledger)
			}
		}
	}
}

func TestExampleOfPower(t *testing.T) {
	s := newStore()
	for i, x := range []struct {
		picks       []int
		many, epoch int
	}{{[]int{2, 0}, 0, 2}, {[]int{0, 1}, 0, 3}, {[]int{3, 3}, 1, 4}} {
		s = appended(s, bent())
		if s.ledger.Used != 3 {
			t.Error(i, s.ledger)
		}
		s = crashed(s, x.picks...)
		if len(s.ledger.Book.Records) != x.many || s.ledger.Epoch != x.epoch || s.ledger.Area != 0 {
			t.Error(i, s.ledger)
		}
	}
	s = packed(s)
	if !isSame(s.ledger, api.Ledger{Book: bookOf(bent()), Area: 1, Epoch: 5, Used: 3}) {
		t.Error(s.ledger)
	}
}
