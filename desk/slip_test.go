package desk_test

import (
	"fmt"
	"slices"
	"testing"

	"potbank/api"
	"potbank/book"
	"potbank/desk"
)

// noted returns a desk whose house has so many records.
func noted(house, many int) *desk.Desk {
	d := desk.New()
	for range many {
		say(d, fmt.Sprint("drawn ", house, " 1 1 1"))
	}
	return d
}

func TestSlips(t *testing.T) {
	d := noted(0, 2)
	check(t, d, saying{"offer 0 1", "slips 1"}, saying{"offer 0 2", "slips 2"}, saying{"offer 1 0", "slips 3"})
	h := noted(0, 2).House(0)
	h, one, _ := book.Offer(h, 1)
	h, two, _ := book.Offer(h, 2)
	_, three, _ := book.Offer(must(book.NewHouse(1)), 0)
	if l := d.Slips(); !slices.EqualFunc(l, []api.Slip{one, two, three}, isSameSlip) || !isSameHouse(d.House(0), h) {
		t.Fatal(l)
	}
	check(t, d, saying{"double 4", "slips 4"}, saying{"lose -3", "slips 3"})
	if l := d.Slips(); !slices.EqualFunc(l, []api.Slip{one, three, two}, isSameSlip) {
		t.Fatal(l)
	}
	check(t, d, saying{"deliver -1", "slips 3"})
	_, answers, _ := book.Receive(must(book.NewHouse(2)), two)
	if l := d.Slips(); !slices.EqualFunc(l, []api.Slip{one, three, answers[0]}, isSameSlip) || len(recordsOf(d, 2)) != 2 {
		t.Fatal(l)
	}
	check(t, d, saying{"deliver 2", "slips 2"}, saying{"deliver 3", "slips 1"}, saying{"lose 1000000000", "slips 0"})
	if known := d.House(0).Known; known[2] != [6]int{2} || known[1] != [6]int{} {
		t.Error(known)
	}
	for _, line := range []string{"deliver 0", "lose 0", "double 0", "deliver -1", "lose 5", "double 1000000000"} {
		check(t, d, saying{line, "error 3"})
	}
	check(t, d, saying{"offer 0 0", "error 1"}, saying{"offer 0 6", "error 1"}, saying{"offer 0 -1", "error 1"}, saying{"offer 6 0", "error 1"}, saying{"counts", "records 2; records 0; records 2; records 0; records 0; records 0"})
}

// Which slip a number means: that with the index that it has modulo how many there are.
func TestWhichSlip(t *testing.T) {
	for n, to := range map[int]int{0: 1, 1: 2, 2: 3, 3: 1, 4: 2, -1: 3, -2: 2, -3: 1, -4: 3, 1000000000: 2, -1000000000: 3} {
		for _, word := range []string{"deliver", "lose", "double"} {
			d := told("offer 0 1\noffer 0 2\noffer 0 3")
			say(d, fmt.Sprint(word, " ", n))
			var left []int
			for _, s := range d.Slips() {
				left = append(left, s.To)
			}
			want := slices.DeleteFunc([]int{1, 2, 3}, func(x int) bool { return x == to })
			if word == "double" {
				want = []int{1, 2, 3, to}
			}
			if !slices.Equal(left, want) {
				t.Error(word, n, left, want)
			}
		}
	}
}

func TestFortySlips(t *testing.T) {
	d := noted(0, 1)
	for i := range 40 {
		check(t, d, saying{[]string{"offer 0 1", "double 0"}[min(i, 1)], fmt.Sprint("slips ", i+1)})
	}
	say(d, "drawn 0 1 1 1") // what an offer would sync
	was := stateOf(d)
	check(t, d, saying{"offer 0 1", "error 2"}, saying{"double 39", "error 2"}, saying{"offer 0 0", "error 1"}, saying{"offer 3 9", "error 1"})
	if !isSameState(stateOf(d), was) || len(was.houses[0].Disk.Wait) == 0 {
		t.Error("something has changed")
	}
	check(t, d, saying{"deliver 0", "slips 40"}, saying{"deliver 39", "slips 39"}, saying{"offer 0 1", "slips 40"}, saying{"double 0", "error 2"})
}

// A slip whose records have no place is refused, and gone.
func TestASlipThatIsRefused(t *testing.T) {
	d := noted(0, 1)
	check(t, d, saying{"offer 2 0", "slips 1"}, saying{"offer 0 1", "slips 2"}, saying{"offer 0 2", "slips 3"})
	for range 60 {
		say(d, "drawn 1 1 1 1")
	}
	was := stateOf(d)
	check(t, d, saying{"deliver 1", "error 2"})
	was.slips = slices.Delete(was.slips, 1, 2)
	if !isSameState(stateOf(d), was) {
		t.Error("more has changed than that the slip is gone")
	}
	check(t, d, saying{"deliver 1", "slips 2"})
}

func TestRestarts(t *testing.T) {
	// Behind the offer, whose record is safe, two writes wait of one page: the first one has the next record in its first half, the second one that and the last record.
	for picks, want := range map[string]int{"0 0": 1, "1 1": 2, "3 3": 3, "-1 7": 3, "-5 -1": 3, "0 3": 3, "3 0": 2, "0 2": 1, "2 0": 1, "1 2": 3, "2 1": 2, "6 4": 1, "-4 -2": 1} {
		d := told("drawn 3 1 1 1\noffer 3 1\ndrawn 3 1 1 1\ndrawn 3 1 1 1")
		var n, m int
		fmt.Sscan(picks, &n, &m)
		h, e := book.Restart(d.House(3), []int{n, m})
		check(t, d, saying{"restart 3 " + picks, fmt.Sprint("records ", want)})
		if e != api.OK || !isSameHouse(d.House(3), h) {
			t.Error(picks, e)
		}
	}
	check(t, desk.New(), saying{"restart 0 0 0", "records 0"}, saying{"restart 6 0 0", "error 1"})
}

func TestPacks(t *testing.T) {
	d := told("drawn 3 1 1 1\noffer 3 1\ndeliver 0\ndeliver 0\ndrawn 3 1 1 1")
	h := d.House(3)
	disks, l, e := book.Pack(h.Disk, h.Ledger)
	if e != api.OK || h.Known[1] == [6]int{} {
		t.Fatal(e)
	}
	check(t, d, saying{"pack 3", "records 2"})
	h.Disk, h.Ledger = disks[4], l
	if !isSameHouse(d.House(3), h) {
		t.Error("another house")
	}
	check(t, d, saying{"restart 3 0 0", "records 2"}, saying{"pack -1", "error 1"})
}

// What was acknowledged stays, whatever is lost, torn or doubled.
func TestWhatIsAcknowledgedStays(t *testing.T) {
	d := noted(4, 9)
	script := "offer 4 5\ndouble 0\ndouble 0\ndeliver 0\nlose 0\nrestart 4 0 0\nrestart 5 0 0\ndeliver 0\ndeliver 0\ndeliver 0\npack 5\nrestart 5 1 2\nrestart 4 2 1"
	for _, line := range linesOf(script) {
		say(d, line)
	}
	check(t, d, saying{"counts", "records 0; records 0; records 0; records 0; records 9; records 8"}, saying{"drawn 5 1 1 1", "record 5 0"}, saying{"drawn 4 1 1 1", "record 4 9"})
	if l := recordsOf(d, 5); !slices.Equal(l[:8], recordsOf(d, 4)[:8]) {
		t.Error(l)
	}
}
