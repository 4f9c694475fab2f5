package desk_test

import (
	"fmt"
	"math/rand"
	"slices"
	"strings"
	"sync"

	"potbank/api"
	"potbank/desk"
)

// table is that of the chapter: of each command its Kind, its word, and its numbers.
const table = `
1 shape ID WIDE WIDE DEEP DEEP HIGH HIGH NEST WEIGHT WEIGHT BEARS
2 body ID SHRINK SHRINK LOSS LOSS HEAT HEAT
3 box ID WIDE DEEP CELL HIGH BEARS
4 item SHAPE MANY CLEAR
5 saggar ID WEIGHT WEIGHT BEARS BEARS HIGH HIGH TILT
6 wad LO HI
7 spot CROWN LEAN
8 order ID MANY HEAT HEAT CLASS
9 seat HEAT HEAT CLASS HOLDS
10 accounts N
11 move SOURCE DAY FROM TO WEIGHT WEIGHT
12 count SOURCE DAY ACCOUNT WEIGHT WEIGHT
13 custom TRADE FROM BASIS BEARS RATE RATE RATE RATE RATE SECOND
14 clear
20 kiln HOUSE DAY KNOWN FIRING MOUTH PLACE FALL FALL
21 fall HOUSE DAY KNOWN FIRING MOUTH PLACE FALL FALL
22 set HOUSE DAY KNOWN FIRING PLACE BODY FIRST MANY
23 read HOUSE DAY KNOWN FIRING PLACE KIND MARK HEAT HEAT
24 drawn HOUSE DAY KNOWN FIRING
25 sold HOUSE DAY KNOWN FIRST MANY
26 broken HOUSE DAY KNOWN FIRST MANY
27 second HOUSE DAY KNOWN FIRST MANY
28 work HOUSE DAY KNOWN MAKER TRADE GRADE FIRST MANY
29 claim HOUSE KNOWN MAKER FIRST MANY
30 withdraw HOUSE KNOWN NO
40 offer HOUSE TO
41 deliver N
42 lose N
43 double N
44 restart HOUSE N N
45 pack HOUSE
50 packed
51 refuse
52 bung
53 bungs
54 plan
55 reason N
56 weight MOVE
57 stock ACCOUNT DAY
58 cut MOVE HIGH
59 uneven
60 heat HOUSE FIRING PLACE KNOWN
61 prove HOUSE FIRING PLACE KNOWN HIGH
62 conflict HOUSE FIRING KNOWN
63 verdict HOUSE PIECE KNOWN
64 verdicts HOUSE FIRING KNOWN
65 together HOUSE FIRING KNOWN
66 changed HOUSE KNOWN LATER
67 recalls HOUSE KNOWN LATER
68 moved HOUSE KNOWN OF NO
69 rests HOUSE PIECE KNOWN
70 due HOUSE PIECE KNOWN
71 posts HOUSE KNOWN
72 balance HOUSE PARTY KNOWN
73 share HOUSE MAKER KNOWN
74 unsettled HOUSE KNOWN
75 outcome HOUSE PIECE KNOWN
76 counts
`

// form is a row of the table.
type form struct {
	kind  int
	word  string
	names []string
}

// forms returns the rows of the table.
var forms = sync.OnceValue(func() []form {
	var l []form
	for line := range strings.Lines(strings.TrimPrefix(table, "\n")) {
		words := strings.Fields(line)
		f := form{word: words[1], names: words[2:]}
		fmt.Sscan(words[0], &f.kind)
		l = append(l, f)
	}
	return l
})

// formOf returns the row of a Kind, and formFor that of a word.
func formOf(kind int) form {
	return forms()[slices.IndexFunc(forms(), func(f form) bool { return f.kind == kind })]
}

func formFor(word string) form {
	return forms()[slices.IndexFunc(forms(), func(f form) bool { return f.word == word })]
}

func command(word string, numbers ...int) api.Command {
	return api.Command{Kind: formFor(word).kind, Args: numbers}
}

// lineOf is the line of a command, without a call of the package.
func lineOf(c api.Command) string {
	words := []string{formOf(c.Kind).word}
	for _, n := range c.Args {
		words = append(words, fmt.Sprint(n))
	}
	return strings.Join(words, " ")
}

// commandOf is the command of a right line, without a call of the package.
func commandOf(line string) api.Command {
	words := strings.Fields(line)
	c := command(words[0])
	for _, word := range words[1:] {
		n := 0
		fmt.Sscan(word, &n)
		c.Args = append(c.Args, n)
	}
	return c
}

func entry(house, no int) api.Entry { return api.Entry{House: house, No: no} }

func span(lo, hi int) api.Range { return api.Range{Lo: lo, Hi: hi} }

// must returns what a call tells that has no error.
func must[T any](v T, e api.Errno) T {
	if e != api.OK {
		panic(e)
	}
	return v
}

// linesOf parts a text of one line or more.
func linesOf(text string) []string { return strings.Split(strings.TrimSuffix(text, "\n"), "\n") }

// say does a line at a desk; the lines of the answer have "; " between them.
func say(d *desk.Desk, line string) string { return strings.Join(d.Do(commandOf(line)), "; ") }

// told does the lines of a script at a new desk.
func told(script string) *desk.Desk {
	d := desk.New()
	for _, line := range linesOf(script) {
		say(d, line)
	}
	return d
}

// setUp sets up the wares and the customs of random histories.
const setUp = `body 1 100 120 50 60 1000 1100
body 2 100 120 50 60 900 1000
body 3 100 120 50 60 1050 1200
custom 1 0 3 2 10 100 200 300 400 500
custom 2 0 1 2 5 6 7 8 9 0
custom 2 4 2 1 50 60 70 80 90 100
shape 7 100 102 100 102 50 51 10 200 210 1000
shape 8 190 200 90 100 30 30 0 500 500 0
box 1 3 2 110 100 3000
wad 5 10
spot 540 4
accounts 3
`

// opening lays out two firings, so that what comes behind it is rarely void.
const opening = `kiln 0 0 0 1 2 3 100 200
kiln 0 0 1 2 1 2 50 150
set 0 1 1 1 0 1 1 3
set 0 1 1 1 1 2 4 3
set 0 1 2 2 1 3 7 2
work 0 0 0 1 1 2 1 4
work 0 1 1 2 2 3 4 4
`

// numberFor returns a random number such as a name of the table may have.
func numberFor(r *rand.Rand, name string) int {
	switch name {
	case "HOUSE", "TO", "OF":
		return r.Intn(3)
	case "DAY", "KNOWN", "LATER", "FROM", "N", "NO":
		return r.Intn(8)
	case "FIRING", "TRADE", "LO", "HI":
		return 1 + r.Intn(2)
	case "PLACE", "MOVE":
		return r.Intn(3)
	case "MOUTH", "ACCOUNT", "HIGH":
		return r.Intn(2)
	case "BODY", "MAKER", "PARTY", "KIND", "BASIS", "MANY":
		return 1 + r.Intn(3)
	case "FIRST", "PIECE":
		return 1 + r.Intn(10)
	case "GRADE", "CLASS", "CLEAR", "TILT", "LEAN":
		return r.Intn(5)
	case "SHAPE":
		return 7 + r.Intn(2)
	case "ID", "SOURCE":
		return 1 + r.Intn(20)
	case "HEAT", "MARK", "CROWN":
		return 850 + r.Intn(300)
	}
	return 100 + r.Intn(200)
}

// someNumbers returns random numbers such as a row of the table may have.
func someNumbers(r *rand.Rand, f form) []int {
	var l []int
	for i, name := range f.names {
		n := numberFor(r, name)
		if i > 0 && f.names[i-1] == name && name != "RATE" && name != "N" {
			n = l[i-1] + r.Intn(60)
		}
		l = append(l, n)
	}
	switch f.word {
	case "kiln":
		l[4], l[5] = 1+l[4], 1+l[5]
	case "read":
		if l[5] == 3 {
			l[6] = 0
		} else {
			l[7], l[8] = 0, 0
		}
	case "move":
		l[2], l[3] = r.Intn(3), r.Intn(3)
	case "seat":
		l[1] = l[0] + r.Intn(20)
	case "order":
		l[3] += 60
	}
	return l
}

// strange returns a number that rarely fits.
func strange(r *rand.Rand) int {
	l := []int{-1, 0, 1, 6, 41, 60, 100, 100001, 1000000000, -1000000000}
	return l[r.Intn(len(l))]
}

// someCommand returns a random right command of one of some kinds.
func someCommand(r *rand.Rand, lo, hi int) api.Command {
	l := slices.DeleteFunc(slices.Clone(forms()), func(f form) bool { return f.kind < lo || f.kind > hi })
	f := l[r.Intn(len(l))]
	c := api.Command{Kind: f.kind, Args: someNumbers(r, f)}
	if len(c.Args) > 0 && r.Intn(12) == 0 {
		c.Args[r.Intn(len(c.Args))] = strange(r)
	}
	return c
}

// someOf returns a random right command, of which many write records, and few set up something.
func someOf(r *rand.Rand) api.Command {
	switch r.Intn(8) {
	case 0, 1, 2:
		return someCommand(r, 20, 30)
	case 3, 4:
		return someCommand(r, 40, 45)
	case 5, 6:
		return someCommand(r, 50, 76)
	}
	return someCommand(r, 1, 14)
}

// someScript returns a random script of so many lines behind the opening.
func someScript(r *rand.Rand, many int) string {
	text := setUp + opening
	for range many {
		text += lineOf(someOf(r)) + "\n"
	}
	return text
}

// isSameHouse compares houses; nil and empty lists are the same.
func isSameHouse(g, h api.House) bool {
	return g.Me == h.Me && g.Known == h.Known && slices.Equal(g.Disk.Pages, h.Disk.Pages) && slices.Equal(g.Disk.Wait, h.Disk.Wait) &&
		isSameLedger(g.Ledger, h.Ledger)
}

func isSameLedger(l, m api.Ledger) bool {
	return slices.Equal(l.Book.Records, m.Book.Records) && l.Area == m.Area && l.Epoch == m.Epoch && l.Used == m.Used
}

func isSameSlip(s, t api.Slip) bool {
	return s.From == t.From && s.To == t.To && s.Have == t.Have && slices.Equal(s.Records, t.Records)
}

// isSameSetting compares settings; nil and empty lists are the same.
func isSameSetting(s, t api.Setting) bool {
	return slices.Equal(s.Wares.Shapes, t.Wares.Shapes) && slices.Equal(s.Wares.Bodies, t.Wares.Bodies) && s.Box == t.Box &&
		slices.Equal(s.Items, t.Items) && s.Wad == t.Wad && s.Spot == t.Spot && slices.Equal(s.Saggars, t.Saggars) &&
		slices.Equal(s.Orders, t.Orders) && slices.Equal(s.Seats, t.Seats) && s.Store.Accounts == t.Store.Accounts &&
		slices.Equal(s.Store.Moves, t.Store.Moves) && slices.Equal(s.Store.Counts, t.Store.Counts) && slices.Equal(s.Customs, t.Customs)
}

// state is all that a desk has.
type state struct {
	houses  []api.House
	setting api.Setting
	slips   []api.Slip
}

func stateOf(d *desk.Desk) state {
	s := state{setting: d.Setting(), slips: d.Slips()}
	for n := range 6 {
		s.houses = append(s.houses, d.House(n))
	}
	return s
}

func isSameState(s, t state) bool {
	return slices.EqualFunc(s.houses, t.houses, isSameHouse) && isSameSetting(s.setting, t.setting) && slices.EqualFunc(s.slips, t.slips, isSameSlip)
}
