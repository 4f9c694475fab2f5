package desk_test

import (
	"math/rand"
	"strings"
	"testing"

	"potbank/api"
	"potbank/desk"
)

// The lines of each of these stand behind one another at one desk, as in the examples of shared/DOC.md.
func TestExamplesOfTheDocument(t *testing.T) {
	for _, l := range [][]saying{
		{{"body 1 100 120 50 60 1000 1100", "ok"}, {"shape 7 100 102 100 102 50 51 10 200 210 1000", "ok"}, {"box 1 3 2 110 100 3000", "ok"}, {"item 7 2 4", "ok"}, {"packed", "0 0"},
			{"item 7 3 4", "ok"}, {"refuse", "1 1"}},
		{{"saggar 1 100 120 300 350 200 210 5", "ok"}, {"saggar 2 80 90 150 200 200 210 10", "ok"}, {"saggar 3 60 60 50 60 100 100 0", "ok"}, {"wad 5 10", "ok"}, {"spot 540 4", "ok"}, {"bung", "0 1 2; yes"}},
		{{"body 1 100 120 50 60 1000 1100", "ok"}, {"kiln 0 1 1 1 1 2 100 200", "record 0 0"}, {"set 0 2 2 1 0 1 10 3", "record 0 1"}, {"read 0 3 3 1 0 3 0 1010 1020", "record 0 2"},
			{"heat 0 1 1 3", "910 1120"}, {"verdict 0 10 3", "yes"},
			{"drawn 0 4 4 1", "record 0 3"}, {"custom 1 0 3 2 0 100 200 300 400 500", "ok"}, {"work 0 1 1 2 1 2 10 3", "record 0 4"}, {"due 0 10 4", "200 0"},
			{"read 0 3 9 1 0 3 0 900 1015", "record 0 5"}, {"heat 0 1 0 9", "1010 1015"}, {"withdraw 0 12 2", "record 0 6"}, {"verdict 0 10 12", "maybe"}, {"changed 0 9 12", "10 11 12"},
			{"posts 0 12", "4 10 0 3 200; 4 11 0 3 200; 4 12 0 3 200; 12 10 0 3 -200; 12 11 0 3 -200; 12 12 0 3 -200"}, {"balance 0 3 12", "0"},
			{"offer 0 1", "slips 1"}, {"deliver 0", "slips 1"}, {"verdict 1 11 4", "yes"}},
		{{"seat 1000 1050 5 10", "ok"}, {"seat 1040 1100 5 6", "ok"}, {"seat 1000 1020 1 20", "ok"}, {"order 1 8 990 1060 3", "ok"}, {"order 2 12 1000 1120 4", "ok"}, {"order 3 5 1000 1050 5", "ok"},
			{"order 4 20 900 1100 0", "ok"}, {"plan", "0 3; 1; 2"}, {"reason 2", "0 1; 0 2; 1 2"}},
		{{"accounts 3", "ok"}, {"move 1 1 0 1 100 110", "ok"}, {"move 2 2 1 2 0 200", "ok"}, {"move 3 3 2 0 40 50", "ok"}, {"count 4 2 1 20 25", "ok"}, {"count 5 3 2 30 60", "ok"}, {"weight 1", "75 90"}},
	} {
		check(t, desk.New(), l...)
	}
}

// pottery sets up all that queries are about.
const pottery = setUp + `item 8 1 5
item 8 1 5
item 7 2 4
saggar 1 100 120 300 350 200 210 5
saggar 2 80 90 150 200 200 210 10
saggar 3 60 60 50 60 100 100 0
seat 1000 1050 5 10
seat 1040 1100 5 6
seat 1000 1020 1 20
order 1 8 990 1060 3
order 2 12 1000 1120 4
order 3 5 1000 1050 5
order 4 20 900 1100 0
move 1 1 0 1 100 110
move 2 2 1 2 0 200
move 3 3 2 0 40 50
count 4 2 1 20 25
count 5 3 2 30 60
kiln 0 1 1 1 1 2 100 200
work 0 1 1 2 1 2 10 3
set 0 2 2 1 0 1 10 3
read 0 3 3 1 0 3 0 1010 1020
drawn 0 4 4 1
sold 0 6 6 10 2
kiln 0 1 5 2 1 2 100 200
read 0 2 5 2 0 1 1000 0 0
read 0 2 5 2 0 2 990 0 0
read 0 3 9 1 0 3 0 900 990
withdraw 0 8 3
second 0 5 7 12 1
`

func TestQueriesOfThePottery(t *testing.T) {
	d := told(pottery)
	was := stateOf(d)
	check(t, d,
		saying{"packed", "0 0; 0 2 turned; 1 0"}, saying{"refuse", "error 3"}, saying{"bung", "0 1 2; yes"}, saying{"bungs", "0 1 2"}, saying{"plan", "0 3; 1; 2"},
		saying{"reason 3", "error 64"}, saying{"reason -1", "error 1"}, saying{"reason 0", "0 1; 0 2; 1 2"}, saying{"reason 9", "error 1"},
		saying{"weight 0", "100 110"}, saying{"weight 2", "40 50"}, saying{"weight 3", "error 77"}, saying{"weight -1", "error 77"}, saying{"stock 2 2", "75 90"}, saying{"stock 2 3", "30 50"},
		saying{"stock 0 2", "error 77"}, saying{"stock 1 4", "error 77"}, saying{"uneven", "error 3"},
		saying{"cut 1 1", "bound 90; stock 1 1; stock 1 2"}, saying{"cut 0 1", "bound 110"}, saying{"cut 0 0", "bound 100"}, saying{"cut 1 2", "error 1"}, saying{"cut 9 -1", "error 1"}, saying{"cut 3 1", "error 77"},
		saying{"heat 0 1 0 2", "-200 2900"}, saying{"heat 0 1 0 3", "1010 1020"}, saying{"heat 0 1 2 3", "error 43"}, saying{"heat 0 3 0 3", "error 52"}, saying{"heat 0 2 0 5", "error 44"}, saying{"heat 1 1 0 3", "error 52"},
		saying{"prove 0 1 0 3 1", "bound 1020; proof 0"}, saying{"prove 0 1 1 3 0", "bound 910; proof 0 -1"}, saying{"prove 0 1 1 3 1", "bound 1120; proof -1 0"}, saying{"prove 0 1 1 2 0", "bound -200; proof -2 0"},
		saying{"prove 0 1 0 3 2", "error 1"}, saying{"prove 0 3 0 3 2", "error 1"}, saying{"prove 0 0 0 3 1", "error 1"}, saying{"prove 0 3 0 3 1", "error 52"}, saying{"prove 0 1 2 3 1", "error 43"}, saying{"prove 0 2 0 5 0", "error 44"},
		saying{"conflict 0 2 5", "8 9"}, saying{"conflict 0 1 3", "error 3"}, saying{"conflict 0 3 3", "error 52"}, saying{"conflict 0 100 3", "error 1"}, saying{"conflict 0 2 -1", "error 6"},
		saying{"verdict 0 10 2", "maybe"}, saying{"verdict 0 10 3", "yes"}, saying{"verdict 0 10 9", "no"}, saying{"verdict 0 13 9", "error 53"}, saying{"verdict 0 0 9", "error 1"}, saying{"verdict 2 10 9", "error 53"},
		saying{"verdicts 0 1 3", "10 yes; 11 yes; 12 yes"}, saying{"verdicts 0 1 2", "10 maybe; 11 maybe; 12 maybe"}, saying{"verdicts 0 1 9", "10 no; 11 no; 12 no"}, saying{"verdicts 0 2 5", "none"}, saying{"verdicts 0 3 5", "error 52"},
		saying{"together 0 1 3", "yes"}, saying{"together 0 1 2", "maybe"}, saying{"together 0 1 9", "no"}, saying{"together 0 2 5", "error 44"},
		saying{"changed 0 2 3", "10 11 12"}, saying{"changed 0 3 7", "none"}, saying{"changed 0 3 -1", "error 6"}, saying{"recalls 0 3 9", "10 11"}, saying{"recalls 0 9 9", "none"}, saying{"recalls 1 3 9", "none"},
		saying{"moved 0 3 0 3", "10 11 12"}, saying{"moved 0 2 0 3", "none"}, saying{"moved 0 3 0 1", "error 3"}, saying{"moved 0 3 1 3", "error 3"}, saying{"moved 0 3 0 2", "10 11 12"},
		saying{"rests 0 10 3", "0 0; 0 2; 0 3"}, saying{"rests 0 13 3", "error 53"},
		saying{"due 0 10 4", "200 0"}, saying{"due 0 10 3", "0 0"}, saying{"due 0 12 7", "100 0"}, saying{"due 0 12 9", "0 0"}, saying{"due 0 13 4", "error 85"}, saying{"due 0 0 4", "error 1"},
		saying{"outcome 0 10 3", "0"}, saying{"outcome 0 10 4", "1"}, saying{"outcome 0 12 7", "2"}, saying{"outcome 0 10 9", "3"}, saying{"outcome 0 10 0", "error 85"},
		saying{"posts 0 3", "none"}, saying{"posts 0 4", "4 10 0 3 200; 4 11 0 3 200; 4 12 0 3 200"}, saying{"posts 0 -1", "error 6"}, saying{"balance 0 3 4", "600"}, saying{"balance 0 0 4", "-600"}, saying{"balance 0 1 9", "0"},
		saying{"balance 0 11 4", "error 86"}, saying{"share 0 2 4", "0 3 0 0 0"}, saying{"share 0 2 7", "0 2 1 0 0"}, saying{"share 0 3 4", "0 0 0 0 0"}, saying{"share 0 10 4", "error 1"},
		saying{"unsettled 0 3", "10 11 12"}, saying{"unsettled 0 4", "none"}, saying{"unsettled 0 100001", "error 6"}, saying{"counts", "records 12; records 0; records 0; records 0; records 0; records 0"},
	)
	if !isSameState(stateOf(d), was) {
		t.Error("something has changed")
	}
}

// What the fireman bears is told as his.
func TestTheFiremanPays(t *testing.T) {
	d := told("body 1 100 120 50 60 1000 1100\ncustom 1 0 1 2 0 100 200 300 400 500\nkiln 0 1 1 1 1 2 100 200\nset 0 2 2 1 0 1 10 2\nread 0 3 3 1 0 3 0 900 990\nwork 0 1 1 2 1 2 10 2\ndrawn 0 4 4 1")
	check(t, d,
		saying{"due 0 10 1", "200 0"}, saying{"due 0 10 4", "200 200"}, saying{"posts 0 9", "1 10 0 3 200; 1 11 0 3 200; 4 10 1 0 200; 4 11 1 0 200"},
		saying{"balance 0 1 9", "-400"}, saying{"balance 0 0 9", "0"}, saying{"balance 0 3 9", "400"}, saying{"balance 0 10 9", "0"}, saying{"outcome 0 10 9", "3"}, saying{"share 0 2 9", "0 0 0 2 0"},
	)
}

func TestQueriesOfNothing(t *testing.T) {
	check(t, desk.New(),
		saying{"packed", "error 20"}, saying{"refuse", "error 20"}, saying{"bung", "error 1"}, saying{"bungs", "none"}, saying{"plan", "none"}, saying{"reason 0", "error 64"},
		saying{"weight 0", "error 77"}, saying{"stock 1 0", "error 77"}, saying{"cut 0 0", "error 77"}, saying{"uneven", "error 3"},
		saying{"box 1 1 1 1 1 1", "ok"}, saying{"packed", "none"}, saying{"refuse", "error 3"}, saying{"item 1 1 1", "ok"}, saying{"packed", "error 22"}, saying{"wad 2 1", "ok"}, saying{"bung", "error 32"}, saying{"bungs", "error 32"},
		saying{"saggar 0 1 2 3 4 5 6 7", "ok"}, saying{"bung", "error 30"}, saying{"clear", "ok"}, saying{"spot -1 0", "ok"}, saying{"wad 1 2", "ok"}, saying{"bungs", "error 33"}, saying{"saggar 1 1 2 3 4 5 6 7", "ok"},
		saying{"bung", "error 33"}, saying{"spot 5 0", "ok"}, saying{"bung", "0; maybe"}, saying{"spot 4 0", "ok"}, saying{"bung", "0; no"}, saying{"bungs", "error 3"},
		saying{"seat 2 1 1 1", "ok"}, saying{"order 1 1 2 1 1", "ok"}, saying{"plan", "error 61"}, saying{"reason 9", "error 61"},
		saying{"accounts 3", "ok"}, saying{"move 1 1 0 1 1 1", "ok"}, saying{"move 2 1 1 2 2 3", "ok"}, saying{"uneven", "1 2"}, saying{"weight 0", "error 73"}, saying{"stock 1 1", "error 73"}, saying{"cut 0 1", "error 73"},
	)
}

// someQuery returns a random query of what was set up, or of a house.
func someQuery(r *rand.Rand, lo, hi int) api.Command {
	c := someCommand(r, lo, hi)
	for i, name := range formOf(c.Kind).names {
		switch name {
		case "HOUSE", "OF":
			c.Args[i] = max(0, r.Intn(5)-3)
		case "KNOWN", "LATER":
			c.Args[i] = r.Intn(13)
		case "NO":
			c.Args[i] = r.Intn(20)
		}
	}
	if len(c.Args) > 0 && r.Intn(8) == 0 {
		c.Args[r.Intn(len(c.Args))] = strange(r)
	}
	return c
}

func TestQueriesAsTheChapterHasIt(t *testing.T) {
	told, refused := map[string]int{}, map[string]int{}
	for seed := range 25 {
		r := rand.New(rand.NewSource(int64(1000 + seed)))
		d, k := desk.New(), newClerk()
		do := func(c api.Command) string {
			got, want := strings.Join(d.Do(c), "\n"), k.do(c)
			if got != want {
				t.Fatalf("%d: %s: %q, not %q", seed, lineOf(c), got, want)
			}
			return got
		}
		for _, line := range linesOf(pottery + opening) {
			do(commandOf(line))
		}
		for range 30 {
			c := someCommand(r, 20, 30)
			c.Args[0] = max(0, r.Intn(4)-2)
			do(c)
		}
		for _, line := range []string{"offer 0 1", "deliver 0", "deliver 0", "offer 0 1", "deliver 0"} {
			do(commandOf(line))
		}
		for range 10 {
			do(someCommand(r, 1, 13))
		}
		was := stateOf(d)
		for range 150 {
			c := someQuery(r, 50, 76)
			if strings.HasPrefix(do(c), "error") {
				refused[formOf(c.Kind).word]++
			} else {
				told[formOf(c.Kind).word]++
			}
		}
		if !isSameState(stateOf(d), was) {
			t.Fatal(seed, "a query changes something")
		}
	}
	for _, f := range forms() {
		if n, m := told[f.word], refused[f.word]; f.kind >= 50 && (n < 3 || m < 3 && len(f.names) > 0) {
			t.Error(f.word, n, m)
		}
	}
}
