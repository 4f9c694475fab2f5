package book_test

import (
	"math/rand"
	"slices"
	"testing"

	"potbank/api"
	"potbank/book"
)

// wrongBooks lists books that are not valid, each for one reason.
func wrongBooks() []api.Book {
	a, b, c := note(2, 0, 1, 1, "a"), note(2, 1, 2, 2, "b"), note(4, 0, 3, 3, "c")
	at := func(r api.Record, house, no int) api.Record {
		r.At = entry(house, no)
		return r
	}
	l := []api.Book{
		bookOf(b), bookOf(b, a), bookOf(c, a), bookOf(a, a), bookOf(a, at(b, 2, 0)), bookOf(a, at(b, 2, 2)), bookOf(a, c, b), bookOf(a, b, at(c, 4, 1)),
		bookOf(a, c, c), bookOf(a, at(c, 3, 1)), bookOf(at(a, 0, 1)), bookOf(c, b), bookOf(at(a, -1, 0)), bookOf(at(a, 6, 0)), bookOf(a, at(b, 3, 2)),
	}
	for _, r := range wrongRecords() {
		l = append(l, bookOf(r), bookOf(a, b, c, at(r, 5, 0)))
	}
	var long api.Book
	for no := range 61 {
		long.Records = append(long.Records, note(0, no, 1, 1, ""))
	}
	// A record that is wrong in its place alone is not wrong elsewhere.
	return slices.DeleteFunc(append(l, long), isBook)
}

func TestCheck(t *testing.T) {
	r := rand.New(rand.NewSource(3))
	for _, b := range wrongBooks() {
		if book.Check(b) != api.ErrBook {
			t.Error(b)
		}
	}
	for range 300 {
		b := someBook(r, r.Intn(61), 1+r.Intn(6))
		if book.Check(b) != api.OK || !isBook(b) {
			t.Fatal(b)
		}
		if len(b.Records) == 0 {
			continue
		}
		i := r.Intn(len(b.Records))
		b.Records[i].At.No += 1 - r.Intn(3)
		b.Records[r.Intn(len(b.Records))].At.House += r.Intn(2) * r.Intn(2)
		if (book.Check(b) == api.OK) != isBook(b) {
			t.Fatal(b)
		}
	}
}

func TestAdd(t *testing.T) {
	b := bookOf(note(2, 0, 1, 1, "a"), note(2, 1, 2, 2, "b"), note(4, 0, 3, 3, "c"))
	for _, x := range []struct {
		r    api.Record
		want api.Errno
	}{
		{note(2, 2, 1, 1, "d"), api.OK}, {note(4, 1, 1, 1, "d"), api.OK}, {note(0, 0, 1, 1, "d"), api.OK}, {note(3, 0, 1, 1, "d"), api.OK}, {note(5, 0, 1, 1, "d"), api.OK},
		{withdrawal(2, 2, 9, 0), api.OK}, {note(2, 1, 2, 2, "x"), api.ErrTwo}, {note(2, 1, 2, 4, "b"), api.ErrTwo}, {withdrawal(2, 1, 2, 0), api.ErrTwo},
		{note(2, 3, 1, 1, "d"), api.ErrGap}, {note(0, 1, 1, 1, "d"), api.ErrGap}, {note(5, 9999, 1, 1, "d"), api.ErrGap}, {note(4, 2, 1, 1, "c"), api.ErrGap},
		{note(2, 2, 41, 1, "d"), api.ErrRecord},
	} {
		c, e := book.Add(b, x.r)
		if e != x.want || e != api.OK && len(c.Records) > 0 {
			t.Error(x, c, e)
		}
		if e == api.OK && !isSame(c, inOrder(bookOf(append(slices.Clone(b.Records), x.r)...))) {
			t.Error(x, c)
		}
	}
	for _, x := range b.Records {
		if c, e := book.Add(b, x); !isSame(c, b) || e != api.OK {
			t.Error(x, c, e)
		}
	}
}

func TestAddToAFullBook(t *testing.T) {
	full := someBook(rand.New(rand.NewSource(4)), 60, 2)
	for _, x := range full.Records {
		if c, e := book.Add(full, x); !isSame(c, full) || e != api.OK {
			t.Error(x, c, e)
		}
		x.Known ^= 1
		if _, e := book.Add(full, x); e != api.ErrTwo {
			t.Error(x, e)
		}
	}
	for house, many := range must(book.Have(full)) {
		if c, e := book.Add(full, note(house, many, 1, 1, "")); e != api.ErrLong || len(c.Records) > 0 {
			t.Error(house, c, e)
		}
		if _, e := book.Add(full, note(house, many+1, 1, 1, "")); e != api.ErrGap {
			t.Error(house, e)
		}
	}
	last := full.Records[59]
	if c, e := book.Add(bookOf(full.Records[:59]...), last); !isSame(c, full) || e != api.OK {
		t.Error(c, e)
	}
}

// within returns a book that is within b: the beginnings of its houses.
func within(r *rand.Rand, b api.Book) api.Book {
	var upTo [6]int
	for house, many := range must(book.Have(b)) {
		upTo[house] = r.Intn(many + 1)
	}
	return bookOf(slices.DeleteFunc(slices.Clone(b.Records), func(x api.Record) bool { return x.At.No >= upTo[x.At.House] })...)
}

func isWithin(a, b api.Book) bool {
	return !slices.ContainsFunc(a.Records, func(x api.Record) bool { return !slices.Contains(b.Records, x) })
}

// P9.2.
func TestJoin(t *testing.T) {
	r := rand.New(rand.NewSource(5))
	for range 500 {
		whole := someBook(r, r.Intn(61), 1+r.Intn(6))
		a, b := within(r, whole), within(r, whole)
		c, e := book.Join(a, b)
		d, f := book.Join(b, a)
		if e != api.OK || f != api.OK || !isSame(c, d) {
			t.Fatal(a, b, c, d, e, f)
		}
		if !isBook(c) || !isWithin(a, c) || !isWithin(b, c) || !isWithin(c, bookOf(slices.Concat(a.Records, b.Records)...)) {
			t.Fatal(a, b, c)
		}
		for _, x := range []api.Book{a, b, c, {}} {
			if y, e := book.Join(c, x); !isSame(y, c) || e != api.OK {
				t.Fatal(c, x, y, e)
			}
		}
	}
}

func TestJoinOfOthers(t *testing.T) {
	r := rand.New(rand.NewSource(6))
	var told [3]int
	for range 600 {
		a := someBook(r, 20+r.Intn(41), 1+r.Intn(2))
		b := someBook(r, r.Intn(41), 1+r.Intn(2))
		if r.Intn(3) == 0 {
			// Another end of the house of its last record.
			b = within(r, a)
			house := r.Intn(6)
			for no := must(book.Have(b))[house]; len(b.Records) < 60 && no < 40; no++ {
				b = must(book.Add(b, someRecord(r, entry(house, no))))
			}
		}
		all := slices.Concat(a.Records, b.Records)
		differ := slices.ContainsFunc(all, func(x api.Record) bool {
			return slices.ContainsFunc(all, func(y api.Record) bool { return x.At == y.At && x != y })
		})
		each := map[api.Entry]bool{}
		for _, x := range all {
			each[x.At] = true
		}
		want, i := api.OK, 0
		if differ {
			want, i = api.ErrTwo, 1
		} else if len(each) > 60 {
			want, i = api.ErrLong, 2
		}
		told[i]++
		c, e := book.Join(a, b)
		d, f := book.Join(b, a)
		if e != want || f != want || !isSame(c, d) || (len(c.Records) > 0) != (e == api.OK) {
			t.Fatal(a, b, c, e, d, f, want)
		}
	}
	if slices.Min(told[:]) < 50 {
		t.Error("the cases are lopsided", told)
	}
}

// P9.2: the order in which records are added does not matter.
func TestOrderOfAdd(t *testing.T) {
	r := rand.New(rand.NewSource(7))
	for range 200 {
		b := someBook(r, r.Intn(61), 1+r.Intn(6))
		var c api.Book
		for _, x := range anyOrder(r, b) {
			c = must(book.Add(c, x))
			c = must(book.Add(c, c.Records[r.Intn(len(c.Records))]))
		}
		if !isSame(c, b) {
			t.Fatal(b, c)
		}
	}
}

func TestHave(t *testing.T) {
	b := bookOf(note(2, 0, 1, 1, "a"), note(2, 1, 2, 2, "b"), note(4, 0, 3, 3, "c"))
	if many, e := book.Have(b); many != [6]int{0, 0, 2, 0, 1, 0} || e != api.OK {
		t.Error(many, e)
	}
	if many, e := book.Have(api.Book{}); many != [6]int{} || e != api.OK {
		t.Error(many, e)
	}
}

func TestStands(t *testing.T) {
	b := bookOf(
		note(0, 0, 1, 1, "a"), note(0, 1, 1, 1, "b"),
		note(2, 0, 1, 1, "a"), withdrawal(2, 1, 2, 0), note(2, 2, 1, 3, "b"), withdrawal(2, 3, 4, 1), withdrawal(2, 4, 5, 2), withdrawal(2, 5, 6, 4), withdrawal(2, 6, 7, 5),
	)
	for at, want := range map[api.Entry]bool{
		entry(0, 0): true, entry(0, 1): true, entry(2, 0): true, entry(2, 1): false, entry(2, 2): false, entry(2, 3): true, entry(2, 4): true, entry(2, 5): false, entry(2, 6): true,
	} {
		if is, e := book.Stands(b, at); is != want || e != api.OK {
			t.Error(at, is, e)
		}
	}
	for _, at := range []api.Entry{entry(0, 2), entry(1, 0), entry(2, 7), entry(2, -1), entry(-1, 0), entry(6, 0), entry(0, 10000)} {
		if is, e := book.Stands(b, at); is || e != api.ErrNone {
			t.Error(at, is, e)
		}
	}
	for known, want := range map[int][]api.Entry{
		0: nil, 1: {entry(0, 0), entry(0, 1), entry(2, 0)}, 2: {entry(0, 0), entry(0, 1)}, 3: {entry(0, 0), entry(0, 1), entry(2, 2)}, 4: {entry(0, 0), entry(0, 1), entry(2, 0), entry(2, 2)},
		5: {entry(0, 0), entry(0, 1), entry(2, 0)}, 6: {entry(0, 0), entry(0, 1), entry(2, 0), entry(2, 2)}, 7: {entry(0, 0), entry(0, 1), entry(2, 0)}, 100000: {entry(0, 0), entry(0, 1), entry(2, 0)},
	} {
		l, e := book.Standing(b, known)
		var told []api.Entry
		for _, x := range l {
			told = append(told, x.At)
		}
		if !slices.Equal(told, want) || e != api.OK {
			t.Error(known, told, e)
		}
	}
}

func TestStandingOfBooks(t *testing.T) {
	r := rand.New(rand.NewSource(8))
	stand, fall := 0, 0
	for range 400 {
		b := someBook(r, r.Intn(25), 1+r.Intn(2))
		known := r.Intn(9)
		for _, x := range b.Records {
			want := doesStand(b, x.At, 100000)
			if is, e := book.Stands(b, x.At); is != want || e != api.OK {
				t.Fatal(b, x, is, e)
			}
			if want {
				stand++
			} else {
				fall++
			}
		}
		var want []api.Record
		for _, x := range b.Records {
			if x.Kind != 0 && x.Known <= known && doesStand(b, x.At, known) {
				want = append(want, x)
			}
		}
		if l, e := book.Standing(b, known); !slices.Equal(l, want) || e != api.OK {
			t.Fatal(b, known, l, e)
		}
	}
	if stand < 1000 || fall < 500 {
		t.Error("the cases are lopsided", stand, fall)
	}
}
