package book_test

import (
	"math/rand"
	"slices"
	"testing"

	"potbank/api"
	"potbank/book"
)

// writesOf lists the writes by which halves get into an area of a disk, page by page.
func writesOf(d api.Disk, area, at int, halves []half) []api.Write {
	d = book.Sync(d)
	was := copyOf(d)
	for i, h := range halves {
		*halfAt(d, area, at+i) = h
	}
	var l []api.Write
	for n := at / 2; n <= (at+len(halves)-1)/2 && len(halves) > 0; n++ {
		l = append(l, api.Write{At: 301*area + n, Page: d.Pages[301*area+n]})
	}
	for i := range d.Pages {
		isWritten := slices.ContainsFunc(l, func(w api.Write) bool { return w.At == i })
		if !isWritten && d.Pages[i] != was.Pages[i] {
			panic("a page without a write")
		}
	}
	return l
}

func TestAppend(t *testing.T) {
	s := appended(newStore(), bent())
	parts := partsOf(bent(), 0, 1)
	want := []api.Write{{At: 0, Page: api.Page{headOf(1, 0), parts[0]}}, {At: 1, Page: api.Page{parts[1], {}}}}
	if !slices.Equal(s.disk.Wait, want) || !isSame(s.ledger, api.Ledger{Book: bookOf(bent()), Epoch: 1, Used: 3}) {
		t.Error(s.disk.Wait, s.ledger)
	}
	if !slices.Equal(s.disk.Pages, newStore().disk.Pages) {
		t.Error("a page is written at once")
	}
	if again := appended(s, bent()); !isSame(again.disk, s.disk) || !isSame(again.ledger, s.ledger) {
		t.Error("a record is written twice")
	}
	// What waits is in the page that waits behind it.
	short := note(2, 1, 5, 10, "")
	s = appended(s, short)
	want = append(want, api.Write{At: 1, Page: api.Page{parts[1], partsOf(short, 1, 1)[0]}})
	if !slices.Equal(s.disk.Wait, want) || s.ledger.Used != 4 {
		t.Error(s.disk.Wait, s.ledger)
	}
}

func TestAppendToStores(t *testing.T) {
	r := rand.New(rand.NewSource(14))
	waits := 0
	for range 250 {
		s := someStore(r)
		have := must(book.Have(s.ledger.Book))
		house := r.Intn(6)
		x := someRecord(r, entry(house, have[house]))
		parts := partsOf(x, len(s.ledger.Book.Records), s.ledger.Epoch)
		want := slices.Concat(s.disk.Wait, writesOf(s.disk, s.ledger.Area, s.ledger.Used, parts))
		waits += len(s.disk.Wait)
		more := appended(s, x)
		is := api.Ledger{Book: must(book.Add(s.ledger.Book, x)), Area: s.ledger.Area, Epoch: s.ledger.Epoch, Used: s.ledger.Used + len(parts)}
		if !slices.Equal(more.disk.Wait, want) || !slices.Equal(more.disk.Pages, s.disk.Pages) || !isSame(more.ledger, is) {
			t.Fatal(s.ledger, more.ledger, more.disk.Wait)
		}
		checkStore(t, more)
		for _, y := range more.ledger.Book.Records {
			if again := appended(more, y); !isSame(again.disk, more.disk) || !isSame(again.ledger, more.ledger) {
				t.Fatal("a record is written twice", y)
			}
			y.Known ^= 1
			if _, e := append1(more, y); e != api.ErrTwo {
				t.Fatal(y, e)
			}
		}
		x.At.No += 2
		if _, e := append1(more, x); e != api.ErrGap {
			t.Fatal(x, e)
		}
	}
	if waits < 500 {
		t.Error("the cases are lopsided", waits)
	}
}

// A ledger may have a greater epoch than a disk needs: what is written has it.
func TestAppendInAnEpoch(t *testing.T) {
	s := appended(newStore(), bent())
	s.ledger.Epoch = 1000000
	x := note(2, 1, 5, 10, "later")
	s = appended(s, x)
	checkStore(t, s)
	if h := s.disk.Wait[len(s.disk.Wait)-1].Page[1]; h != partsOf(x, 1, 1000000)[0] || s.ledger.Epoch != 1000000 {
		t.Error(h, s.ledger)
	}
	s.ledger.Epoch = 1
	if _, e := append1(s, note(2, 2, 5, 10, "")); e != api.ErrDisk {
		t.Error("an epoch that is behind that of the journal", e)
	}
}

func TestAppendToFullWait(t *testing.T) {
	for waits, want := range map[int]api.Errno{1197: api.OK, 1198: api.OK, 1199: api.ErrLong, 1200: api.ErrLong} {
		s := newStore()
		s.disk.Wait = slices.Repeat([]api.Write{{At: 601, Page: aPage(1)}}, waits)
		checkStore(t, s)
		more, e := append1(s, bent())
		if e != want || (e == api.OK) != (len(more.disk.Wait) == waits+2) {
			t.Error(waits, e, len(more.disk.Wait))
		}
		if e != api.OK && (!isSame(more.disk, api.Disk{}) || !isSame(more.ledger, api.Ledger{})) {
			t.Error("a result beside an error")
		}
		if _, e := append1(s, note(2, 1, 1, 1, "")); e != api.ErrGap {
			t.Error(waits, e)
		}
	}
	s := appended(newStore(), bent())
	s.disk.Wait = append(s.disk.Wait, slices.Repeat([]api.Write{{At: 601, Page: aPage(1)}}, 1198)...)
	if again, e := append1(s, bent()); e != api.OK || !isSame(again.disk, s.disk) {
		t.Error("a record that is there needs no room", e)
	}
}

func TestPack(t *testing.T) {
	s := appended(crashed(crashed(appended(newStore(), bent()), 2, 0)), bent())
	s = crashed(s, 3)
	ways, l, e := book.Pack(s.disk, s.ledger)
	if e != api.OK || len(ways) != 5 || !isSame(l, api.Ledger{Book: bookOf(bent()), Area: 1, Epoch: s.ledger.Epoch + 1, Used: 3}) {
		t.Fatal(ways, l, e)
	}
	last := ways[4]
	for i, h := range halvesOf(l.Epoch, 1, partsOf(bent(), 0, l.Epoch)) {
		if *halfAt(last, 1, i) != h {
			t.Error(i)
		}
	}
	checkStore(t, store{last, l})
}

// The five disks on the way of a Pack.
func TestPackOfStores(t *testing.T) {
	r := rand.New(rand.NewSource(15))
	var areas [2]int
	for range 250 {
		s := someStore(r)
		b, area, epoch := s.ledger.Book, 1-s.ledger.Area, s.ledger.Epoch+1
		areas[area]++
		var parts []half
		for number, x := range b.Records {
			parts = append(parts, partsOf(x, number, epoch)...)
		}
		one := book.Sync(s.disk)
		two := copyOf(one)
		two.Wait = writesOf(one, area, 1, parts)
		three := book.Sync(two)
		four := copyOf(three)
		four.Wait = writesOf(three, area, 0, []half{headOf(epoch, len(b.Records))})
		five := book.Sync(four)
		ways, l, e := book.Pack(s.disk, s.ledger)
		if e != api.OK || !slices.EqualFunc(ways, []api.Disk{one, two, three, four, five}, func(d, f api.Disk) bool { return isSame(d, f) }) {
			t.Fatal(s.ledger, e)
		}
		if !isSame(l, api.Ledger{Book: b, Area: area, Epoch: epoch, Used: 1 + len(parts)}) {
			t.Fatal(l)
		}
		checkStore(t, store{five, l})
	}
	if slices.Min(areas[:]) < 50 {
		t.Error("the cases are lopsided", areas)
	}
}

func TestPackAtTheLastEpoch(t *testing.T) {
	s := appended(newStore(), bent())
	s.ledger.Epoch = 999999
	if _, l, e := book.Pack(s.disk, s.ledger); l.Epoch != 1000000 || e != api.OK {
		t.Error(l, e)
	}
	s.ledger.Epoch = 1000000
	if ways, l, e := book.Pack(s.disk, s.ledger); len(ways) > 0 || !isSame(l, api.Ledger{}) || e != api.ErrLong {
		t.Error(l, e)
	}
}

// P9.7.
func TestPacked(t *testing.T) {
	r := rand.New(rand.NewSource(16))
	for range 250 {
		s := someStore(r)
		for range r.Intn(4) {
			s = packed(s)
		}
		was := s.ledger.Book
		s = packed(s)
		if !isSame(s.ledger.Book, was) || !isSame(must(open(s.disk)).ledger.Book, was) {
			t.Fatal(was, s.ledger)
		}
		for area := range 2 {
			for i := range 602 {
				isPacked := area == s.ledger.Area && i < s.ledger.Used
				if (epochOf(*halfAt(s.disk, area, i)) == s.ledger.Epoch) != isPacked {
					t.Fatal(area, i, s.ledger)
				}
			}
		}
	}
}
