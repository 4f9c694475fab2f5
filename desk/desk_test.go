package desk_test

import (
	"math"
	"slices"
	"testing"

	"potbank/api"
	"potbank/book"
	"potbank/desk"
	"potbank/probe"
)

func TestNew(t *testing.T) {
	d := desk.New()
	for n := range 6 {
		if h := d.House(n); !isSameHouse(h, must(book.NewHouse(n))) {
			t.Error(n, h.Ledger)
		}
		if !isSameShop(d.Shop(n), api.Shop{}) {
			t.Error(n)
		}
	}
	if s := d.Setting(); !isSameSetting(s, api.Setting{Store: api.Store{Accounts: 2}}) {
		t.Error(s)
	}
	if l := d.Slips(); len(l) != 0 {
		t.Error(l)
	}
	d.Do(command("offer", 0, 1))
	if other := desk.New(); len(other.Slips()) != 0 || len(d.Slips()) != 1 {
		t.Error("desks are not their own")
	}
}

// isNoShop reports whether a shop is a zero value.
func isNoShop(s api.Shop) bool { return isSameShop(s, api.Shop{}) }

func TestNoDesk(t *testing.T) {
	var d *desk.Desk
	for _, c := range append(wrongCommands(), command("clear"), command("counts"), command("pack", 0), command("pack", 6)) {
		if l := d.Do(c); !slices.Equal(l, []string{"error 100"}) {
			t.Error(c, l)
		}
	}
	for n := -1; n <= 6; n++ {
		if !isSameHouse(d.House(n), api.House{}) || !isNoShop(d.Shop(n)) {
			t.Error(n)
		}
	}
	if !isSameSetting(d.Setting(), api.Setting{}) || len(d.Slips()) != 0 {
		t.Error("no desk has something")
	}
}

func TestNoHouse(t *testing.T) {
	d := told(setUp + opening)
	for _, n := range append(probe.WrongNumbers(0, 5), 1000) {
		if !isSameHouse(d.House(n), api.House{}) || !isNoShop(d.Shop(n)) {
			t.Error(n)
		}
	}
	was := stateOf(d)
	for _, f := range forms() {
		if len(f.names) == 0 || f.names[0] != "HOUSE" {
			continue
		}
		for _, house := range []int{-1, 6, 1000000000, -1000000000} {
			// No other number of these may be either.
			c := command(f.word, slices.Repeat([]int{-1}, len(f.names))...)
			c.Args[0] = house
			if l := d.Do(c); !slices.Equal(l, []string{"error 1"}) {
				t.Error(c, l)
			}
		}
	}
	if !isSameState(stateOf(d), was) {
		t.Error("something has changed")
	}
}

// A desk that New did not make has houses that are not valid.
func TestZeroDesk(t *testing.T) {
	for _, f := range forms() {
		d := &desk.Desk{}
		if l := d.Do(command(f.word, slices.Repeat([]int{1}, len(f.names))...)); len(l) == 0 {
			t.Error(f.word)
		}
		for n := -1; n <= 6; n++ {
			d.House(n)
			d.Shop(n)
		}
	}
}

// full fills all lists of a desk.
const full = setUp + opening + `item 7 1 4
saggar 1 100 120 300 350 200 210 5
order 1 8 990 1060 3
seat 1000 1050 5 10
move 1 1 0 1 100 110
count 2 1 1 100 105
offer 0 1
claim 0 3 1 2 1
sold 0 3 3 1 1
`

func TestNothingIsShared(t *testing.T) {
	d, other := told(full), told(full)
	was, shop := stateOf(other), other.Shop(0)
	if len(was.houses[0].Disk.Wait) == 0 || len(was.slips[0].Records) == 0 || len(shop.Claims) == 0 || len(shop.Events) == 0 || len(shop.Works) == 0 {
		t.Fatal("too little to share")
	}
	h := d.House(0)
	h.Disk.Pages[0][0][0]++
	h.Disk.Wait[0].At++
	h.Ledger.Book.Records[0].Kind = 33
	for _, l := range [][]api.Slip{d.Slips(), d.Slips()[:1]} {
		l[0].Records[0].Kind = 34
		l[0].From = 9
	}
	s := d.Setting()
	s.Wares.Shapes[0].Id, s.Wares.Bodies[0].Id, s.Items[0].Many, s.Saggars[0].Id, s.Orders[0].Id, s.Seats[0].Class = 91, 92, 93, 94, 95, 96
	s.Store.Moves[0].Day, s.Store.Counts[0].Day, s.Customs[0].Trade = 97, 98, 99
	p := d.Shop(0)
	p.Wares.Shapes[0].Id, p.Wares.Bodies[0].Id, p.Customs[0].Trade, p.Events[0].Day, p.Works[0].Day, p.Claims[0].Known = 91, 92, 93, 94, 95, 96
	if !isSameState(stateOf(d), was) || !isSameShop(d.Shop(0), shop) {
		t.Fatal("a desk shares memory with what it tells")
	}
	// What was told stays as it is when the desk goes on.
	h, l, s := d.House(0), d.Slips(), d.Setting()
	for _, line := range []string{"shape 7 1 1 1 1 1 1 0 1 1 1", "body 1 1 1 1 1 1 1", "custom 1 0 1 1 0 0 0 0 0 0", "kiln 0 1 1 9 1 1 0 0", "deliver 0", "lose 0", "clear", "accounts 2", "pack 0"} {
		say(d, line)
	}
	if !isSameHouse(h, was.houses[0]) || !isSameSetting(s, was.setting) || !isSameSlip(l[0], was.slips[0]) {
		t.Error("a desk changes what it told")
	}
}

func TestAnswersAreNotShared(t *testing.T) {
	d := told(setUp + opening)
	for _, f := range forms() {
		c := someKnown(f)
		if c.Kind < 50 {
			continue
		}
		one, two := d.Do(c), d.Do(c)
		was := slices.Clone(two)
		for i := range one {
			one[i] = "x"
		}
		if !slices.Equal(two, was) || !slices.Equal(d.Do(c), was) {
			t.Error(f.word)
		}
	}
}

// someKnown returns a command of small numbers.
func someKnown(f form) api.Command {
	return command(f.word, []int{0, 1, 1, 1, 1, 1, 1, 1, 1, 1, 1}[:len(f.names)]...)
}

func TestStrangeCommands(t *testing.T) {
	numbers := []int{0, 1, -1, 2, 5, 6, 40, 41, 99, 100, 999, 1000, 9999, 10000, 100000, 100001, 1000000000, -1000000000, math.MaxInt, math.MinInt}
	d := told(full)
	for i, n := range numbers {
		for _, f := range forms() {
			for at := range len(f.names) {
				c := someKnown(f)
				c.Args[at] = n
				if l := d.Do(c); len(l) == 0 || l[0] == "" {
					t.Error(c, l)
				}
				c.Args[(at+i)%len(c.Args)] = numbers[(i+at)%len(numbers)]
				if l := d.Do(c); len(l) == 0 || l[0] == "" {
					t.Error(c, l)
				}
			}
		}
	}
}
