package book_test

import (
	"math"
	"math/rand"
	"slices"
	"testing"

	"potbank/api"
	"potbank/book"
)

// laid returns a disk whose areas have these halves at their beginnings.
func laid(one, two []half) api.Disk {
	d := api.Disk{Pages: make([]api.Page, 602)}
	for area, l := range [][]half{one, two} {
		for i, h := range l {
			*halfAt(d, area, i) = h
		}
	}
	return d
}

// halvesOf returns a head, and parts of records behind it.
func halvesOf(epoch, count int, parts ...[]half) []half {
	return append([]half{headOf(epoch, count)}, slices.Concat(parts...)...)
}

// checkOpen compares what Open and CheckLedger tell of a disk with the chapter's definitions, and returns the ledger.
func checkOpen(t *testing.T, d api.Disk) (api.Ledger, api.Errno) {
	t.Helper()
	is, reopened, counts := lookAt(d)
	s, e := open(d)
	want := api.OK
	if !counts {
		want = api.ErrArea
	} else if reopened > 1000000 {
		want = api.ErrLong
	}
	if e != want {
		t.Fatal(e, want, is)
	}
	least := is.Epoch
	if e == api.OK {
		is.Epoch = reopened
		if !isSame(s.disk, book.Sync(d)) || !isSame(s.ledger, is) || book.CheckLedger(s.disk, s.ledger) != api.OK {
			t.Fatal(s.ledger, is)
		}
	} else if !isSame(s.disk, api.Disk{}) || !isSame(s.ledger, api.Ledger{}) {
		t.Fatal("a result beside an error")
	}
	for _, epoch := range []int{least - 1, least, least + 1, reopened, 1000000, 1000001, 0, -1} {
		is.Epoch = epoch
		if book.CheckLedger(d, is) == api.OK != (counts && isIn(epoch, least, 1000000)) {
			t.Fatal("CheckLedger of the epoch", epoch, least, is)
		}
	}
	return s.ledger, e
}

func TestOpenOfAreas(t *testing.T) {
	r, s := note(0, 0, 1, 1, "a"), note(0, 1, 1, 1, "b")
	two := []half{headOf(3, 2)}
	two = append(append(two, partsOf(r, 0, 3)...), partsOf(s, 1, 4)...)
	for i, x := range []struct {
		one, two    []half
		want        api.Errno
		area, epoch int
		many        int
	}{
		{halvesOf(1, 0), nil, api.OK, 0, 2, 0},
		{nil, halvesOf(1, 0), api.OK, 1, 2, 0},
		{nil, nil, api.ErrArea, 0, 0, 0},
		{halvesOf(3, 0), halvesOf(3, 0), api.OK, 0, 4, 0},
		{halvesOf(2, 0), halvesOf(3, 0), api.OK, 1, 4, 0},
		{halvesOf(3, 0), halvesOf(2, 0), api.OK, 0, 4, 0},
		{halvesOf(2, 0), two, api.OK, 1, 5, 2},
		{halvesOf(4, 0), two, api.OK, 0, 5, 0},
		{halvesOf(4, 1), two, api.OK, 1, 5, 2},
		{halvesOf(4, 1, partsOf(r, 0, 4)), two, api.OK, 0, 5, 1},
		{halvesOf(4, 2, partsOf(r, 0, 4)), two, api.OK, 1, 5, 2},
		{halvesOf(4, 1, partsOf(r, 0, 3)), two, api.OK, 1, 5, 2},
		{halvesOf(2, 1, partsOf(r, 0, 2)), halvesOf(3, 1), api.OK, 0, 4, 1},
		{halvesOf(2, 1), halvesOf(3, 1), api.ErrArea, 0, 0, 0},
		{halvesOf(0, 0), nil, api.ErrArea, 0, 0, 0},
		{halvesOf(1000001, 0), nil, api.ErrArea, 0, 0, 0},
		{halvesOf(1000000, 0), nil, api.ErrLong, 0, 0, 0},
		{halvesOf(999999, 0), nil, api.OK, 0, 1000000, 0},
		{halvesOf(1, 0), halvesOf(1000001, 0), api.OK, 0, 2, 0},
		{halvesOf(1, 0), halvesOf(1000000, 1), api.ErrLong, 0, 0, 0},
		{halvesOf(1, 65535, partsOf(r, 0, 1)), nil, api.ErrArea, 0, 0, 0},
		{halvesOf(1, 256, partsOf(r, 0, 1)), nil, api.ErrArea, 0, 0, 0},
	} {
		l, e := checkOpen(t, laid(x.one, x.two))
		if e != x.want || l.Area != x.area || l.Epoch != x.epoch || len(l.Book.Records) != x.many {
			t.Error(i, l, e)
		}
	}
}

// A head has the same bytes as another one but for its epoch and count.
func TestOpenOfOtherHeads(t *testing.T) {
	for i := range 32 {
		for _, b := range []byte{1, 'p', 164, 255} {
			h := headOf(1, 0)
			if h[i] = b; h == headOf(1, 0) {
				continue
			}
			want := api.ErrArea
			if isIn(i, 1, 3) && numberIn(h) < 1000000 {
				want = api.OK
			}
			if _, e := checkOpen(t, laid([]half{h}, nil)); e != want {
				t.Error(i, b, e)
			}
		}
	}
}

// Halves at the very ends of the areas have epochs too.
func TestEpochsAtTheEnds(t *testing.T) {
	for area := range 2 {
		for _, i := range []int{1, 600, 601} {
			d := laid(halvesOf(3, 0), halvesOf(2, 0))
			*halfAt(d, area, i) = partsOf(bent(), 7, 9)[1]
			if l, e := checkOpen(t, d); l.Area != 0 || l.Epoch != 10 || e != api.OK {
				t.Error(area, i, l, e)
			}
			for epoch, want := range map[int]api.Errno{8: api.ErrDisk, 9: []api.Errno{api.ErrDisk, api.OK}[area], 10: api.OK} {
				if e := book.CheckLedger(d, api.Ledger{Used: 1, Epoch: epoch}); e != want {
					t.Error(area, i, epoch, e)
				}
			}
		}
	}
}

// What the journal has ends ahead of the first half that is not the next one of a record.
func TestEndOfJournal(t *testing.T) {
	x, y, z := note(2, 0, 5, 10, "bent 1000"), note(2, 1, 5, 10, "bent"), note(0, 0, 7, 11, someTextOf(60).Text)
	parts := func(epochs ...int) []half {
		return halvesOf(5, 0, partsOf(x, 0, epochs[0]), partsOf(y, 1, epochs[1]), partsOf(z, 2, epochs[2]))
	}
	for i, c := range []struct {
		l          []half
		many, used int
	}{
		{parts(5, 5, 5), 3, 8}, {parts(5, 6, 9), 3, 8}, {parts(7, 7, 1000000), 3, 8}, {parts(5, 6, 5), 2, 4}, {parts(4, 6, 6), 0, 1}, {parts(9, 8, 9), 1, 3}, {parts(5, 5, 1000001), 2, 4}, {parts(5, 1000001, 1000002), 1, 3},
		{halvesOf(5, 0, partsOf(x, 1, 5)), 0, 1}, {halvesOf(5, 0, partsOf(x, 0, 5), partsOf(y, 0, 5)), 1, 3}, {halvesOf(5, 0, partsOf(x, 0, 5), partsOf(y, 2, 5)), 1, 3},
		{halvesOf(5, 0, partsOf(y, 0, 5)), 0, 1}, {halvesOf(5, 0, partsOf(x, 0, 5), partsOf(x, 1, 5)), 1, 3}, {halvesOf(5, 0, partsOf(x, 0, 5), partsOf(note(2, 0, 1, 1, ""), 1, 5)), 1, 3},
		{halvesOf(5, 0, partsOf(x, 0, 5), []half{{}}, partsOf(y, 1, 5)), 1, 3}, {halvesOf(5, 0, []half{{}}, partsOf(x, 0, 5)), 0, 1},
		{halvesOf(5, 0, partsOf(x, 0, 5)[1:], partsOf(y, 0, 5)), 0, 1}, {halvesOf(5, 0, partsOf(x, 0, 5)[:1], partsOf(y, 1, 5)), 0, 1},
		{halvesOf(5, 0, partsOf(x, 0, 5)[:1], partsOf(x, 0, 6)[1:]), 0, 1}, {halvesOf(5, 0, partsOf(x, 0, 6)[:1], partsOf(x, 0, 5)[1:]), 0, 1},
	} {
		l, e := checkOpen(t, laid(c.l, nil))
		if e == api.ErrLong {
			// A half is of the greatest epoch; the ledger of it is one all the same.
			is, _, _ := lookAt(laid(c.l, nil))
			l, e = is, book.CheckLedger(laid(c.l, nil), is)
		}
		if e != api.OK || len(l.Book.Records) != c.many || l.Used != c.used {
			t.Error(i, l, e)
		}
	}
}

// Each byte of a part counts.
func TestOpenOfOtherParts(t *testing.T) {
	r := rand.New(rand.NewSource(11))
	x, y := note(2, 0, 5, 10, "bent 1000"), note(2, 1, 5, 10, "bent")
	right := halvesOf(5, 0, partsOf(x, 0, 5), partsOf(y, 1, 5))
	var told [3]int
	for at := 1; at < len(right); at++ {
		for i := range 32 {
			for _, b := range []byte{0, 255, byte(r.Intn(256)), right[at][i] + 1} {
				l := slices.Clone(right)
				l[at][i] = b
				is, e := checkOpen(t, laid(l, nil))
				if e == api.OK {
					told[len(is.Book.Records)]++
				}
			}
		}
	}
	if slices.Min(told[:]) < 40 {
		t.Error("the cases are lopsided", told)
	}
}

// The longest journal has all halves of an area but one.
func TestFullArea(t *testing.T) {
	var l []api.Record
	for no := range 60 {
		l = append(l, note(3, no, 5, 10, someTextOf(200).Text))
	}
	s := appended(newStore(), l...)
	if s.ledger.Used != 601 || len(s.disk.Wait) != 360 {
		t.Error(s.ledger.Used, len(s.disk.Wait))
	}
	checkStore(t, s)
	is, e := checkOpen(t, s.disk)
	if !isSame(is.Book, bookOf(l...)) || is.Used != 601 || e != api.OK {
		t.Error(is, e)
	}
	// No more records than there may be: not even one that the last half has room for.
	for i := range 60 {
		l[i].Text = ""
	}
	s = synced(appended(newStore(), l...))
	*halfAt(s.disk, 0, 61) = partsOf(note(3, 60, 5, 10, ""), 60, 1)[0]
	is, e = checkOpen(t, s.disk)
	if len(is.Book.Records) != 60 || is.Used != 61 || e != api.OK {
		t.Error(is, e)
	}
}

// someHalf changes a half of a disk in some way.
func someHalf(r *rand.Rand, d api.Disk) {
	area, other := r.Intn(2), r.Intn(2)
	i, k := r.Intn(12), r.Intn(12)
	h := halfAt(d, area, i)
	switch r.Intn(7) {
	case 0:
		h[r.Intn(32)] = byte(r.Intn(256))
	case 1:
		*h = half{}
	case 2:
		*h = *halfAt(d, other, k)
	case 3:
		h[3] += byte(1 - 2*r.Intn(2))
	case 4:
		*halfAt(d, area, 0) = headOf(r.Intn(9), r.Intn(6))
	case 5:
		h[5] = byte(r.Intn(4))
	case 6:
		for n, p := range partsOf(someRecord(r, entry(r.Intn(3), r.Intn(2))), r.Intn(4), 1+r.Intn(12)) {
			*halfAt(d, area, i+n) = p
		}
	}
}

// someStore returns a store behind random changes, of a book of few records.
func someStore(r *rand.Rand) store {
	s := newStore()
	for range 1 + r.Intn(12) {
		switch r.Intn(8) {
		case 0:
			s = synced(s)
		case 1:
			s = packed(s)
		case 2:
			s = crashed(s, r.Intn(4), r.Intn(4), r.Intn(4))
		default:
			if len(s.ledger.Book.Records) < 60 {
				house := r.Intn(3)
				s = appended(s, someRecord(r, entry(house, must(book.Have(s.ledger.Book))[house])))
			}
		}
	}
	return s
}

// Disks that are damaged in any way.
func TestOpenOfDamagedDisks(t *testing.T) {
	r := rand.New(rand.NewSource(12))
	var areas [2]int
	var many [5]int
	none := 0
	for range 1500 {
		d := someStore(r).disk
		for range r.Intn(4) {
			someHalf(r, d)
		}
		if r.Intn(3) == 0 {
			d.Wait = append(d.Wait, api.Write{At: 301*r.Intn(2) + r.Intn(4), Page: d.Pages[301*r.Intn(2)+r.Intn(4)]})
		}
		l, e := checkOpen(t, d)
		if e != api.OK {
			none++
			continue
		}
		areas[l.Area]++
		many[min(len(l.Book.Records), 4)]++
	}
	if slices.Min(areas[:]) < 250 || slices.Min(many[:]) < 50 || none < 50 {
		t.Error("the cases are lopsided", areas, many, none)
	}
}

// Each number of a ledger, and each record, counts.
func TestCheckLedgerOfOthers(t *testing.T) {
	r := rand.New(rand.NewSource(13))
	for range 100 {
		s := someStore(r)
		checkStore(t, s)
		for _, spoil := range []func(l *api.Ledger){
			func(l *api.Ledger) { l.Area = 1 - l.Area }, func(l *api.Ledger) { l.Area = math.MinInt }, func(l *api.Ledger) { l.Area += 2 },
			func(l *api.Ledger) { l.Used++ }, func(l *api.Ledger) { l.Used-- }, func(l *api.Ledger) { l.Used = math.MaxInt }, func(l *api.Ledger) { l.Used = 0 },
			func(l *api.Ledger) { l.Epoch = 0 }, func(l *api.Ledger) { l.Epoch = math.MinInt }, func(l *api.Ledger) { l.Epoch = 1000001 }, func(l *api.Ledger) { l.Epoch-- },
			func(l *api.Ledger) { l.Epoch++ }, func(l *api.Ledger) { l.Epoch = 1000000 }, func(l *api.Ledger) { l.Book.Records = append(l.Book.Records, bent()) },
			func(l *api.Ledger) { l.Book.Records = l.Book.Records[:max(len(l.Book.Records), 1)-1] }, func(l *api.Ledger) { slices.Reverse(l.Book.Records) },
			func(l *api.Ledger) {
				for i := range l.Book.Records {
					l.Book.Records[i].Known ^= 1
				}
			},
		} {
			l := s.ledger
			l.Book.Records = slices.Clone(l.Book.Records)
			spoil(&l)
			if (book.CheckLedger(s.disk, l) == api.OK) != isLedger(s.disk, l) {
				t.Fatal(l, s.ledger)
			}
		}
	}
}
