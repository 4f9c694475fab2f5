package desk_test

import (
	"fmt"
	"slices"
	"testing"

	"potbank/api"
	"potbank/desk"
)

func recordsOf(d *desk.Desk, house int) []api.Record { return d.House(house).Ledger.Book.Records }

func TestRecordsOfAllKinds(t *testing.T) {
	d := desk.New()
	check(t, d,
		saying{"kiln 2 1 3 1 1 2 100 200", "record 2 0"}, saying{"fall 2 4 5 1 0 1 300 400", "record 2 1"}, saying{"set 2 6 7 1 0 3 10 5", "record 2 2"},
		saying{"read 2 8 9 1 0 3 0 1010 1020", "record 2 3"}, saying{"read 2 9 8 1 1 1 1000 0 0", "record 2 4"}, saying{"drawn 2 10 11 1", "record 2 5"},
		saying{"sold 2 12 13 10 2", "record 2 6"}, saying{"broken 2 14 15 11 3", "record 2 7"}, saying{"second 2 16 17 12 1", "record 2 8"},
		saying{"work 2 18 19 2 1 4 10 3", "record 2 9"}, saying{"claim 2 20 5 11 2", "record 2 10"}, saying{"withdraw 2 21 3", "record 2 11"},
		saying{"drawn 5 0 0 99", "record 5 0"},
	)
	want := []api.Record{
		note(2, 0, 1, 1, 3, "1 1 2 100 200"), note(2, 1, 2, 4, 5, "1 0 1 300 400"), note(2, 2, 3, 6, 7, "1 0 3 10 5"), note(2, 3, 4, 8, 9, "1 0 3 0 1010 1020"),
		note(2, 4, 4, 9, 8, "1 1 1 1000 0 0"), note(2, 5, 5, 10, 11, "1"), note(2, 6, 6, 12, 13, "10 2"), note(2, 7, 7, 14, 15, "11 3"), note(2, 8, 8, 16, 17, "12 1"),
		note(2, 9, 9, 18, 19, "2 1 4 10 3"), note(2, 10, 10, 0, 20, "5 11 2"), withdrawal(2, 11, 21, 3),
	}
	if l := recordsOf(d, 2); !slices.Equal(l, want) {
		t.Error(l)
	}
	if l := recordsOf(d, 5); !slices.Equal(l, []api.Record{note(5, 0, 5, 0, 0, "99")}) {
		t.Error(l)
	}
	s := d.Shop(2)
	if len(s.Events) != 10 || s.Events[3].Reading.Source != 20004 || len(s.Works) != 1 || s.Works[0].Source != 20010 || len(s.Claims) != 1 || s.Claims[0].Source != 20011 {
		t.Error(s)
	}
}

// refused returns lines that write no record, by their errors.
func refused() map[string][]string {
	return map[string][]string{
		"error 50": {
			"kiln 0 -1 3 1 1 2 100 200", "kiln 0 100001 3 1 1 2 100 200", "kiln 0 1 -1 1 1 2 100 200", "kiln 0 1 100001 1 1 2 100 200", "kiln 0 1 3 0 1 2 100 200", "kiln 0 1 3 100 1 2 100 200",
			"kiln 0 1 3 1 7 2 100 200", "kiln 0 1 3 1 1 25 100 200", "kiln 0 1 3 1 1 2 200 100", "kiln 0 1 3 1 1 2 -1 200", "kiln 0 1 3 1 1 2 100 3001", "kiln 0 1 3 1 1 2 100 1000000000",
			"fall 0 1 1 1 0 1 -5 7", "fall 0 1 1 1 6 1 5 7", "fall 0 1 1 1 0 24 5 7", "set 0 1 1 1 24 1 10 3", "set 0 1 1 1 0 0 10 3", "set 0 1 1 1 0 1000 10 3", "set 0 1 1 1 0 1 0 3",
			"set 0 1 1 1 0 1 10 41", "set 0 1 1 1 0 1 9999 2", "read 0 1 1 1 0 4 0 1010 1020", "read 0 1 1 1 0 3 1 1010 1020", "read 0 1 1 1 0 1 1000 0 1", "read 0 1 1 1 24 3 0 1010 1020",
			"read 0 1 1 0 0 3 0 1010 1020", "drawn 0 1 1 0", "drawn 0 1 1 100", "drawn 0 1 -1 1", "sold 0 1 1 0 1", "sold 0 1 1 10 0", "broken 0 1 1 9999 2", "second 0 1 1 10000 1", "second 0 1 -2 1 1",
		},
		"error 81": {
			"work 0 -1 1 2 1 2 10 3", "work 0 1 -1 2 1 2 10 3", "work 0 100001 1 2 1 2 10 3", "work 0 1 100001 2 1 2 10 3", "work 0 1 1 0 1 2 10 3", "work 0 1 1 10 1 2 10 3", "work 0 1 1 2 0 2 10 3",
			"work 0 1 1 2 10 2 10 3", "work 0 1 1 2 1 5 10 3", "work 0 1 1 2 1 -1 10 3", "work 0 1 1 2 1 2 0 3", "work 0 1 1 2 1 2 10 41", "work 0 1 1 2 1 2 9999 2",
		},
		"error 82": {"claim 0 -1 2 1 1", "claim 0 100001 2 1 1", "claim 0 1 0 1 1", "claim 0 1 10 1 1", "claim 0 1 2 0 1", "claim 0 1 2 1 0", "claim 0 1 2 1 41", "claim 0 1 2 9999 2"},
		"error 3":  {"withdraw 0 9 2", "withdraw 0 9 -1", "withdraw 0 -1 2", "withdraw 0 9 1000000000", "withdraw 1 9 1", "withdraw 2 9 0"},
		"error 90": {"withdraw 0 -1 0", "withdraw 0 100001 0"},
	}
}

func TestRecordsThatAreRefused(t *testing.T) {
	d := told("kiln 0 0 0 1 1 2 100 200\nwork 0 1 1 2 1 2 10 3\nkiln 1 0 0 1 1 2 100 200")
	was := stateOf(d)
	for answer, l := range refused() {
		for _, line := range l {
			check(t, d, saying{line, answer})
		}
	}
	if !isSameState(stateOf(d), was) {
		t.Error("something has changed")
	}
}

func TestWithdrawals(t *testing.T) {
	d := told("work 0 1 1 2 1 2 10 3\nwork 0 1 1 2 1 2 20 3\nwork 1 1 1 2 1 2 10 3\noffer 0 1\ndeliver 0")
	check(t, d,
		saying{"withdraw 0 9 1", "record 0 2"},
		saying{"withdraw 0 9 1", "error 1"},  // it is withdrawn
		saying{"withdraw 0 9 2", "error 1"},  // it is a withdrawal
		saying{"withdraw 0 -9 1", "error 1"}, // ahead of what book.Note finds
		saying{"withdraw 0 9 3", "error 3"},
		saying{"withdraw 1 9 1", "error 3"}, // that is a record of the house 0
		saying{"withdraw 1 9 0", "record 1 1"},
		saying{"withdraw 0 0 0", "record 0 3"}, // ahead of the day on which it gets known
		saying{"withdraw 0 5 0", "error 1"},
	)
	works := []api.Work{{Source: 2, First: 20, Many: 3, Maker: 2, Trade: 1, Grade: 2, Day: 1, Known: 1, Until: 9}}
	if l := d.Shop(0).Works; !slices.Equal(l, works) {
		t.Error(l)
	}
	works = []api.Work{
		{Source: 1, First: 10, Many: 3, Maker: 2, Trade: 1, Grade: 2, Day: 1, Known: 1}, {Source: 2, First: 20, Many: 3, Maker: 2, Trade: 1, Grade: 2, Day: 1, Known: 1},
		{Source: 10001, First: 10, Many: 3, Maker: 2, Trade: 1, Grade: 2, Day: 1, Known: 1, Until: 9},
	}
	if l := d.Shop(1).Works; !slices.Equal(l, works) {
		t.Error(l)
	}
}

func TestFullBooks(t *testing.T) {
	d := desk.New()
	for no := range 60 {
		check(t, d, saying{"drawn 1 1 1 1", fmt.Sprint("record 1 ", no)})
	}
	was := stateOf(d)
	check(t, d,
		saying{"drawn 1 1 1 1", "error 2"}, saying{"work 1 1 1 2 1 2 10 3", "error 2"}, saying{"claim 1 1 2 10 3", "error 2"}, saying{"withdraw 1 1 5", "error 2"},
		saying{"read 1 1 1 1 0 3 0 1010 1020", "error 2"}, saying{"drawn 1 1 1 0", "error 50"}, saying{"work 1 1 1 0 1 2 10 3", "error 81"}, saying{"claim 1 1 0 10 3", "error 82"},
		saying{"withdraw 1 1 60", "error 3"}, saying{"withdraw 1 -1 5", "error 90"},
	)
	if !isSameState(stateOf(d), was) {
		t.Error("something has changed")
	}
}
