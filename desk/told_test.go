package desk_test

import (
	"fmt"
	"math/rand"
	"slices"
	"testing"

	"potbank/api"
	"potbank/desk"
)

func note(house, no, kind, day, known int, text string) api.Record {
	return api.Record{At: entry(house, no), Kind: kind, Day: day, Known: known, Text: text}
}

func withdrawal(house, no, known, of int) api.Record {
	return api.Record{At: entry(house, no), Known: known, Of: entry(house, of)}
}

func bookOf(l ...api.Record) api.Book { return api.Book{Records: l} }

func TestEventsOfABook(t *testing.T) {
	b := bookOf(
		note(0, 0, 1, 1, 2, "1 1 2 100 200"), note(0, 1, 9, 1, 1, "2 1 2 10 3"), note(0, 2, 3, 3, 4, "1 0 1 10 3"), withdrawal(0, 3, 9, 1),
		note(0, 4, 5, 1, 1, "x"), note(0, 5, 11, 1, 1, "1"), note(3, 0, 4, 3, 3, "1 0 3 0 1010 1020"), note(3, 1, 10, 0, 3, "1 2 3"), note(5, 0, 8, 7, 6, "9999 1"),
	)
	want := []api.Event{
		{At: entry(0, 0), Kind: 1, Day: 1, Known: 2, Firing: 1, Mouth: 1, Place: 2, Fall: span(100, 200)},
		{At: entry(0, 2), Kind: 3, Day: 3, Known: 4, Firing: 1, Body: 1, First: 10, Many: 3},
		{At: entry(0, 3), Known: 9, Of: entry(0, 1)},
		{At: entry(3, 0), Kind: 4, Day: 3, Known: 3, Firing: 1, Reading: api.Reading{Source: 30001, Kind: 3, Heat: span(1010, 1020)}},
		{At: entry(5, 0), Kind: 8, Day: 7, Known: 6, First: 9999, Many: 1},
	}
	if l, e := desk.Events(b); !slices.Equal(l, want) || e != api.OK {
		t.Error(l, e)
	}
}

func TestWorksAndClaimsOfABook(t *testing.T) {
	b := bookOf(
		note(0, 0, 9, 5, 6, "2 1 4 10 3"),    // for ever
		note(0, 1, 9, 5, 6, "9 9 0 9960 40"), // up to 8
		note(0, 2, 9, 5, 6, "2 1 4 10 3"),    // withdrawn as it gets known
		note(0, 3, 9, 5, 6, "2 1 4 10 3"),    // up to 7: another withdrawal is ahead
		note(0, 4, 10, 5, 6, "2 10 3"),       // for ever; a claim has no day
		note(0, 5, 10, 0, 0, "2 10 3"),       // withdrawn on the day 0
		note(0, 6, 10, 0, 6, "9 1 1"),        // up to 100000
		withdrawal(0, 7, 8, 1), withdrawal(0, 8, 6, 2), withdrawal(0, 9, 7, 3), withdrawal(0, 10, 6, 3), withdrawal(0, 11, 0, 5), withdrawal(0, 12, 100000, 6),
		withdrawal(0, 13, 9, 9),                                  // of a withdrawal: it says nothing of the work
		note(4, 0, 9, 0, 0, "1 1 0 1 1"), withdrawal(4, 1, 0, 0), // nor does one of another house
		note(4, 2, 9, 0, 0, "1 1 0 1 1"), withdrawal(4, 3, 1, 2),
	)
	works := []api.Work{
		{Source: 1, Maker: 2, Trade: 1, Grade: 4, First: 10, Many: 3, Day: 5, Known: 6},
		{Source: 2, Maker: 9, Trade: 9, First: 9960, Many: 40, Day: 5, Known: 6, Until: 8},
		{Source: 4, Maker: 2, Trade: 1, Grade: 4, First: 10, Many: 3, Day: 5, Known: 6, Until: 7},
		{Source: 40003, Maker: 1, Trade: 1, First: 1, Many: 1, Until: 1},
	}
	if l, e := desk.Works(b); !slices.Equal(l, works) || e != api.OK {
		t.Error(l, e)
	}
	claims := []api.Claim{
		{Source: 5, Maker: 2, First: 10, Many: 3, Known: 6},
		{Source: 7, Maker: 9, First: 1, Many: 1, Known: 6, Until: 100000},
	}
	if l, e := desk.Claims(b); !slices.Equal(l, claims) || e != api.OK {
		t.Error(l, e)
	}
}

// wrongTexts are those of records that are no works, nor claims.
func wrongTexts() []string {
	return []string{
		"", " ", "x", "1", "1 1", "1 1 1 1", "1 1 1 1 1 1", " 1 1 1 1 1", "1 1 1 1 1 ", "1  1 1 1 1", "01 1 1 1 1", "+1 1 1 1 1", "1 1 -0 1 1", "1 1 1 1 x",
		" 1 1 1", "1 1 1 ", "1  1 1", "01 1 1", "+1 1 1", "1,1,1", "1 1 x", "-1 1 1",
		"0 1 1 1 1", "10 1 1 1 1", "-1 1 1 1 1", "1 0 1 1 1", "1 10 1 1 1", "1 1 5 1 1", "1 1 -1 1 1", "1 1 1 0 1", "1 1 1 10000 1", "1 1 1 1 0", "1 1 1 1 41", "1 1 1 9999 2",
		"0 1 1", "10 1 1", "1 0 1", "1 10000 1", "1 1 0", "1 1 41", "1 9999 2", "18446744073709551617 1 1", "1 1 1 1 18446744073709551617",
		"1 1 1 1 99999999999999999999999999999999999999999999999999", "9999999999999999999 1 1",
	}
}

func TestTextsThatAreNoWorks(t *testing.T) {
	for _, text := range wrongTexts() {
		for kind := range 41 {
			if kind == 0 {
				continue
			}
			b := bookOf(note(1, 0, kind, 1, 1, text), note(1, 1, 9, 1, 1, "1 1 1 1 1"), note(1, 2, 10, 1, 1, "1 1 1"))
			works, e := desk.Works(b)
			claims, f := desk.Claims(b)
			if len(works) != 1 || e != api.OK || len(claims) != 1 || f != api.OK || works[0].Source != 10002 || claims[0].Source != 10003 {
				t.Errorf("%q: %v %v", text, works, claims)
			}
			if l, e := desk.Events(b); e != api.OK || !slices.Equal(l, eventsOf(b)) {
				t.Errorf("%q: %v %v", text, l, e)
			}
		}
	}
}

// wrongBooks are not valid.
func wrongBooks() []api.Book {
	var long []api.Record
	for no := range 61 {
		long = append(long, note(0, no, 9, 1, 1, "1 1 1 1 1"))
	}
	return []api.Book{
		bookOf(long...), bookOf(note(0, 1, 9, 1, 1, "1 1 1 1 1")), bookOf(note(6, 0, 9, 1, 1, "1 1 1 1 1")), bookOf(note(0, 0, 41, 1, 1, "1")),
		bookOf(note(0, 0, 9, 1, 100001, "1 1 1 1 1")), bookOf(note(1, 0, 9, 1, 1, ""), note(0, 0, 9, 1, 1, "")), bookOf(note(0, 0, 1, 1, 1, "1\n")),
		bookOf(withdrawal(0, 0, 1, 0)),
	}
}

func TestBooksThatAreNotValid(t *testing.T) {
	for _, b := range wrongBooks() {
		events, e := desk.Events(b)
		works, f := desk.Works(b)
		claims, g := desk.Claims(b)
		if len(events) != 0 || e != 91 || len(works) != 0 || f != 91 || len(claims) != 0 || g != 91 {
			t.Error(b, e, f, g)
		}
	}
	events, e := desk.Events(api.Book{})
	works, f := desk.Works(api.Book{})
	claims, g := desk.Claims(api.Book{})
	if len(events) != 0 || e != 0 || len(works) != 0 || f != 0 || len(claims) != 0 || g != 0 {
		t.Error(e, f, g)
	}
}

func someText(r *rand.Rand, kind int) string {
	n := func() int { return r.Intn(6) }
	switch r.Intn(8) {
	case 0:
		l := wrongTexts()
		return l[r.Intn(len(l))]
	case 1:
		kind = r.Intn(11)
	}
	switch kind {
	case 1, 2:
		return fmt.Sprint(n(), " ", n(), " ", n(), " ", n(), " ", n()+3)
	case 3, 9:
		return fmt.Sprint(n(), " ", n(), " ", n(), " ", n(), " ", n())
	case 4:
		return fmt.Sprint(n(), " ", n(), " 3 0 ", 1+n(), " ", 4+n())
	case 5:
		return fmt.Sprint(n())
	case 10:
		return fmt.Sprint(n(), " ", n(), " ", n())
	}
	return fmt.Sprint(n(), " ", n())
}

// someBook returns a random book of few kinds of records, some of which are withdrawn.
func someBook(r *rand.Rand) api.Book {
	var b api.Book
	for house := range 6 {
		for no := range r.Intn(11) {
			known := r.Intn(4)
			if no > 0 && r.Intn(3) == 0 {
				b.Records = append(b.Records, withdrawal(house, no, known, r.Intn(no)))
				continue
			}
			kind := 1 + r.Intn(14)
			if kind > 10 {
				kind = 9 + r.Intn(3)
			}
			b.Records = append(b.Records, note(house, no, kind, r.Intn(4), known, someText(r, kind)))
		}
	}
	return b
}

func TestWhatRandomBooksTell(t *testing.T) {
	r := rand.New(rand.NewSource(3))
	events, works, claims := 0, 0, 0
	for range 3000 {
		b := someBook(r)
		was := slices.Clone(b.Records)
		es, e := desk.Events(b)
		ws, f := desk.Works(b)
		cs, g := desk.Claims(b)
		if !slices.Equal(es, eventsOf(b)) || !slices.Equal(ws, worksOf(b)) || !slices.Equal(cs, claimsOf(b)) || e+f+g != 0 {
			t.Fatal(b, es, ws, cs)
		}
		if !slices.Equal(b.Records, was) {
			t.Fatal("the book has changed")
		}
		events, works, claims = events+len(es), works+len(ws), claims+len(cs)
	}
	if events < 1000 || works < 1000 || claims < 1000 {
		t.Error(events, works, claims)
	}
}
