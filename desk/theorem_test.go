package desk_test

import (
	"fmt"
	"math/rand"
	"slices"
	"strings"
	"testing"

	"potbank/api"
	"potbank/desk"
)

// someRecord returns a random command that writes a record of a house.
func someRecord(r *rand.Rand, house int) api.Command {
	c := someCommand(r, 20, 30)
	c.Args[0] = house
	return c
}

// exchange has the houses 0 to 2 offer to each other, and receive, until no slip has records. Meanwhile slips are lost, doubled and delayed, and the power fails.
func exchange(t *testing.T, r *rand.Rand, d *desk.Desk) {
	for range 20 {
		d.Do(someCommand(r, 40, 45))
	}
	for range 40 {
		for len(d.Slips()) > 0 {
			d.Do(command("deliver", r.Intn(40)))
		}
		isNews := false
		for from := range 3 {
			for to := range 3 {
				if from != to {
					d.Do(command("offer", from, to))
					l := d.Slips()
					isNews = isNews || len(l[len(l)-1].Records) > 0
				}
			}
		}
		if !isNews {
			return
		}
	}
	t.Fatal("slips have records for ever")
}

// P10.3
func TestHousesWithTheSameRecordsTellTheSame(t *testing.T) {
	told := 0
	for seed := range 15 {
		r := rand.New(rand.NewSource(int64(5000 + seed)))
		d := desk.New()
		for _, line := range linesOf(setUp + opening) {
			d.Do(commandOf(line))
		}
		for range 40 {
			d.Do(someRecord(r, r.Intn(3)))
		}
		exchange(t, r, d)
		one := recordsOf(d, 0)
		for n := 1; n < 3; n++ {
			if !slices.Equal(one, recordsOf(d, n)) {
				t.Fatal(seed, "other records")
			}
			if !isSameShop(d.Shop(0), d.Shop(n)) {
				t.Fatal(seed, "another shop")
			}
		}
		for range 100 {
			c := someQuery(r, 60, 75)
			c.Args[0] = 0
			want := d.Do(c)
			for n := 1; n < 3; n++ {
				c.Args[0] = n
				if got := d.Do(c); !slices.Equal(got, want) {
					t.Fatal(seed, lineOf(c), got, want)
				}
			}
			if !strings.HasPrefix(want[0], "error") && want[0] != "none" {
				told++
			}
		}
	}
	if told < 500 {
		t.Error(told)
	}
}

// without returns a state without the slip that the n-th one is, whatever n is.
func (s state) without(n int) state {
	i := ((n % len(s.slips)) + len(s.slips)) % len(s.slips)
	s.slips = slices.Delete(slices.Clone(s.slips), i, i+1)
	return s
}

// P10.5
func TestWhatIsRefusedChangesNothing(t *testing.T) {
	refused, gone := 0, 0
	for seed := range 12 {
		r := rand.New(rand.NewSource(int64(6000 + seed)))
		d := told(setUp + opening)
		if seed%3 == 0 {
			d = noted(1, 56)
			say(d, "offer 1 0")
			say(d, "drawn 2 1 1 1")
			for range 9 {
				say(d, "offer 2 1")
			}
			for range 4 {
				say(d, "drawn 1 1 1 1")
			}
		}
		for range 250 {
			c := someOf(r)
			was := stateOf(d)
			isRefused := strings.HasPrefix(d.Do(c)[0], "error")
			if !isRefused && c.Kind < 50 {
				continue
			}
			if c.Kind == api.CmdDeliver && len(was.slips) > 0 {
				was = was.without(c.Args[0])
				gone++
			}
			if refused++; !isSameState(stateOf(d), was) {
				t.Fatal(seed, lineOf(c))
			}
		}
	}
	if refused < 700 || gone < 5 {
		t.Error(refused, gone)
	}
}

// asKnown returns random queries of a house, as known on some day up to one.
func asKnown(r *rand.Rand, day, many int) []api.Command {
	var l []api.Command
	for len(l) < many {
		c := someQuery(r, 60, 75)
		c.Args[0] = 0
		for i, name := range formOf(c.Kind).names {
			if name == "KNOWN" || name == "LATER" {
				c.Args[i] = r.Intn(day + 1)
			}
		}
		l = append(l, c)
	}
	return l
}

// P10.6
func TestWhatIsToldOfADayStays(t *testing.T) {
	told := 0
	for seed := range 40 {
		r := rand.New(rand.NewSource(int64(7000 + seed)))
		d := desk.New()
		for _, line := range linesOf(setUp + opening) {
			d.Do(commandOf(line))
		}
		for range 20 {
			d.Do(someRecord(r, 0))
		}
		day := r.Intn(7)
		queries := asKnown(r, day, 60)
		var was []string
		for _, c := range queries {
			was = append(was, strings.Join(d.Do(c), "; "))
		}
		for range 20 {
			c := someRecord(r, 0)
			c.Args[slices.Index(formOf(c.Kind).names, "KNOWN")] = day + 1 + r.Intn(3)
			d.Do(c)
		}
		for i, c := range queries {
			if c.Kind == api.CmdMoved && was[i] == "error 3" {
				continue // there was no such event at all
			}
			if got := strings.Join(d.Do(c), "; "); got != was[i] {
				t.Fatal(seed, day, lineOf(c), got, was[i])
			}
			if !strings.HasPrefix(was[i], "error") && was[i] != "none" {
				told++
			}
		}
	}
	if told < 800 {
		t.Error(told)
	}
}

// What was paid for the pieces of a work that is withdrawn later is paid back on the day on which that gets known.
func TestWithdrawnWork(t *testing.T) {
	d := desk.New()
	check(t, d,
		saying{"custom 1 0 1 1 0 100 200 300 400 500", "ok"}, saying{"work 3 1 2 4 1 2 10 2", "record 3 0"}, saying{"claim 3 5 7 11 1", "record 3 1"},
		saying{"posts 3 9", "2 10 0 5 200; 2 11 0 5 200; 5 11 0 5 -200; 5 11 0 8 200"}, saying{"withdraw 3 7 1", "record 3 2"}, saying{"withdraw 3 8 0", "record 3 3"},
		saying{"posts 3 6", "2 10 0 5 200; 2 11 0 5 200; 5 11 0 5 -200; 5 11 0 8 200"},
		saying{"posts 3 7", "2 10 0 5 200; 2 11 0 5 200; 5 11 0 5 -200; 5 11 0 8 200; 7 11 0 5 200; 7 11 0 8 -200"},
		saying{"balance 3 5 7", "400"}, saying{"balance 3 5 8", "0"}, saying{"balance 3 8 6", "200"}, saying{"balance 3 8 8", "0"}, saying{"share 3 4 7", "2 0 0 0 0"}, saying{"share 3 4 8", "0 0 0 0 0"}, saying{"due 3 10 8", "error 85"},
	)
	for n := range 6 {
		if n != 3 {
			check(t, d, saying{fmt.Sprint("posts ", n, " 9"), "none"})
		}
	}
}
