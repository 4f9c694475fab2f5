package desk_test

import (
	"fmt"
	"math/rand"
	"slices"
	"strings"
	"testing"

	"potbank/api"
	"potbank/clay"
	"potbank/desk"
	"potbank/heat"
	"potbank/trial"
)

// checkPaper compares what Accept tells of a paper.
func checkPaper(t *testing.T, paper string, line int, want api.Errno) {
	t.Helper()
	if n, e := desk.Accept(paper); n != line || e != want {
		t.Errorf("%.200q: %v %v, not %v %v", paper, n, e, line, want)
	}
}

func TestOpen(t *testing.T) {
	for paper, want := range map[string][2]string{
		"":                                 {},
		"> clear\n< ok":                    {"clear\n", "ok\n"},
		"> clear\n< ok\n":                  {"clear\n", "ok\n"},
		"< a\n> b\n> c\n< d\n< e\n<  f \n": {"b\nc\n", "a\nd\ne\n f \n"},
		"> \n< \n> > \n< < ":               {"\n> \n", "\n< \n"},
		"> # x\r\n<  \x00":                 {"# x\r\n", " \x00\n"},
	} {
		if script, told, n, e := desk.Open(paper); script != want[0] || told != want[1] || n != 0 || e != api.OK {
			t.Errorf("%q: %q %q %v %v", paper, script, told, n, e)
		}
	}
	for paper, line := range map[string]int{
		"x": 1, "\n": 1, " ": 1, "> clear\n< ok\n\n": 3, "> clear\n\n< ok": 2, ">": 1, "<": 1, "> a\n<": 2, ">a": 1, "<ok": 1, "> clear\n ok": 2, "> clear\n # no": 2, "# no\n> clear": 1,
		"> clear\n >clear": 2, "> a\n> b\n< c\nd\ne": 4, "\t> a": 1, "\r\n": 1, "=> a": 1,
	} {
		if script, told, n, e := desk.Open(paper); script != "" || told != "" || n != line || e != 102 {
			t.Errorf("%q: %q %q %v %v", paper, script, told, n, e)
		}
		checkPaper(t, paper, line, api.ErrPaper)
	}
	most := strings.Repeat("> clear\n", 50000)
	if script, told, n, e := desk.Open(most); script != strings.Repeat("clear\n", 50000) || told != "" || n != 0 || e != api.OK {
		t.Error(n, e)
	}
	for _, paper := range []string{most + ">", "x" + most, strings.Repeat("\n", 400001)} {
		if script, told, n, e := desk.Open(paper); script != "" || told != "" || n != 0 || e != api.ErrLong {
			t.Error(n, e)
		}
		checkPaper(t, paper, 0, api.ErrLong)
	}
}

func TestAccept(t *testing.T) {
	for _, paper := range []string{
		"", "> clear\n< ok\n", "> clear\n< ok\n> bungs\n< none\n", "> pack 6\n< error 1\n", "> cut 0 1\n< error 77\n", "> prove 0 1 1 1 1\n< error 52\n",
		"> counts\n" + strings.Repeat("< records 0\n", 6),
	} {
		checkPaper(t, paper, 0, api.OK)
	}
	counts := "> counts\n" + strings.Repeat("< records 0\n", 6)
	for paper, line := range map[string]int{
		"> clear\n< none\n": 2, "> clear\n": 2, "> clear": 2, "> clear\n< ok": 2, "> clear\n< ok\n< ok\n": 3, "> clear\n< ok\n< \n": 3, "< ok\n": 1, "< ok": 1, "< ok\n> clear\n< ok\n": 1, "< \n> clear\n< ok\n": 1,
		"> clear\n> clear\n< ok\n": 2, "> clear\n< ok\n> clear\n": 4, "> clear\n< OK\n": 2, "> clear\n<  ok\n": 2, "> clear\n< ok \n": 2, "> clear\n< ok\r\n": 2, "> clear\n< error 1\n": 2,
		"> clear\n< ok\n> counts\n< records 0\n": 5, counts + "< records 0\n": 8, counts + "> clear\n": 9, counts + "> clear\n< ok": 9, "> counts\n" + strings.Repeat("< records 0\n", 5) + "> clear\n< ok\n": 7,
		strings.TrimSuffix(counts, "\n"): 7, strings.Replace(counts, "0\n> ", "1\n> ", 1) + "< x": 8, strings.Replace(counts, "records 0", "records 1", 1): 2,
		"> prove 0 1 1 1 1\n< error 52\n< proof 0\n": 3, "> prove 0 1 1 1 1\n< bound 0\n< proof 0\n": 2, "> cut 0 1\n< error 77\n< stock 1 1\n": 3, "> cut 0 1\n< bound 0\n": 2, "> cut 0 1\n": 2,
		"> kiln 0 1 1 1 1 1 5 6\n< record 0 0\n> counts\n< records 0\n": 4, "> drawn 0 1 1 1\n< record 0 0\n> drawn 0 1 1 1\n< record 0 0\n": 4,
	} {
		checkPaper(t, paper, line, api.ErrSaid)
	}
}

// Each of these has more errors behind the one that is told.
func TestFirstErrorOfPapers(t *testing.T) {
	long := "> spot 1" + strings.Repeat(" ", 200) + "2\n"
	for paper, want := range map[string]struct {
		line int
		e    api.Errno
	}{
		"> clear\n< no\n> x\n\n":                  {4, api.ErrPaper},
		"> x\n> \n":                               {2, api.ErrPaper},
		"> x\n>  clear\n":                         {2, api.ErrPaper},
		"> x\n> clear \n> #\n":                    {2, api.ErrPaper},
		"> x\n> # a\n>  clear\n":                  {2, api.ErrPaper},
		"> clear 1\n>   \n":                       {2, api.ErrPaper},
		"> clear\n< no\n> spot  1 2\n":            {3, api.ErrPaper},
		"> clear\n< no\n> spot 1 2 \n> clear":     {3, api.ErrPaper},
		"> #" + strings.Repeat("x", 300):          {1, api.ErrPaper},
		"> " + strings.Repeat(" ", 300) + "\n> x": {1, api.ErrPaper},
		long + "> # x\n":                          {2, api.ErrPaper},
		"> clear\n< no\n" + long + "> x\n":        {3, api.ErrLong},
		"> clear\n< no\n> x\n" + long:             {3, api.ErrLine},
		"> clear\n< no\n> clear 1":                {3, api.ErrLine},
		"> clear\n< no\n< no\n> spot -0 1\n< ok":  {4, api.ErrLine},
		"< ok\n> clear\r\n< ok":                   {2, api.ErrLine},
		"> clear\n< no\n> clear\n< ok":            {2, api.ErrSaid},
		"> clear\n< ok\n> clear\n< no":            {4, api.ErrSaid},
		strings.Repeat("> clear\n", 121):          {0, api.ErrLong},
		strings.Repeat("> x\n< ok\n", 121):        {0, api.ErrLong},
		strings.Repeat("> x\n", 121) + "> # x":    {122, api.ErrPaper},
		strings.Repeat("> x\n", 120):              {1, api.ErrLine},
		"> " + strings.Repeat("x", 23999) + "\n":  {1, api.ErrLong},
		"> " + strings.Repeat("x", 24000) + "\n":  {0, api.ErrLong},
		strings.Repeat("> clear\n< ok\n", 120):    {0, api.OK},
		strings.Repeat("> clear\n< ok\n", 121):    {0, api.ErrLong},
	} {
		checkPaper(t, paper, want.line, want.e)
	}
}

// isFree reports for each line of a paper whether it stands behind the first one of an answer of `prove` or `cut`.
func isFree(lines []string) []bool {
	free := make([]bool, len(lines))
	behind := -1
	for i, line := range lines {
		if word := strings.Fields(line)[1]; strings.HasPrefix(line, "> ") {
			behind = -1
			if word == "prove" || word == "cut" {
				behind = 0
			}
		} else if behind >= 0 {
			free[i] = behind > 0
			behind++
		}
	}
	return free
}

// changesOf returns other lines of an answer.
func changesOf(r *rand.Rand, line string) []string {
	at := 2 + r.Intn(len(line)-2)
	l := []string{line + " ", "< " + line[2:] + "x", "<  " + line[2:], "< ok", "< none", "< ", "< yes", "< error 1", "< record 0 1", "< 0", line + " 1", line + "\r", "< " + line,
		line[:at] + "7" + line[at+1:], line[:at] + line[at+1:], line[:at] + "-" + line[at:]}
	return slices.DeleteFunc(l, func(other string) bool { return other == line || !strings.HasPrefix(other, "< ") })
}

// firstOther returns the number of the first line at which two papers differ.
func firstOther(lines, others []string) int {
	for i := range lines {
		if i >= len(others) || lines[i] != others[i] {
			return i + 1
		}
	}
	return len(lines) + 1
}

// P10.4
func TestAcceptOfTranscripts(t *testing.T) {
	for seed := range 10 {
		r := rand.New(rand.NewSource(int64(3000 + seed)))
		script := pottery
		for range 60 {
			script += lineOf(someOf(r)) + "\n"
		}
		paper, n, e := desk.Transcript(script)
		if n != 0 || e != api.OK {
			t.Fatal(n, e)
		}
		checkPaper(t, paper, 0, api.OK)
		checkPaper(t, strings.TrimSuffix(paper, "\n"), strings.Count(paper, "\n"), api.ErrSaid)
		lines := linesOf(paper)
		free := isFree(lines)
		for i, line := range lines {
			if r.Intn(8) > 0 || free[i] || strings.HasPrefix(line, "> ") {
				continue
			}
			all := changesOf(r, line)
			for _, others := range [][]string{
				slices.Delete(slices.Clone(lines), i, i+1), slices.Insert(slices.Clone(lines), i, line), slices.Replace(slices.Clone(lines), i, i+1, all[r.Intn(len(all))]),
			} {
				checkPaper(t, strings.Join(others, "\n")+"\n", firstOther(lines, others), api.ErrSaid)
			}
		}
	}
}

// The script of a paper is that of its commands, however they were written.
func TestOpenOfTranscripts(t *testing.T) {
	for seed := range 20 {
		r := rand.New(rand.NewSource(int64(4000 + seed)))
		script := someScript(r, 40)
		paper, _, _ := desk.Transcript(loose(r, script))
		want, _, _ := desk.Run(script)
		if s, told, n, e := desk.Open(paper); s != script || told != want || n != 0 || e != api.OK {
			t.Fatal(seed, n, e)
		}
	}
}

// shown returns a paper of a script with a query at its end, and the lines of that answer.
func shown(script, query string) (paper string, answer []string) {
	paper, _, _ = desk.Transcript(script)
	return paper + "> " + query + "\n", told(script).Do(commandOf(query))
}

// checkShown compares what Accept tells of lines of an answer behind its first one.
func checkShown(t *testing.T, script, query string, behind []string, isRight bool) {
	t.Helper()
	paper, answer := shown(script, query)
	at := strings.Count(paper, "\n") + 2
	text := paper + "< " + answer[0] + "\n"
	for _, line := range behind {
		text += "< " + line + "\n"
	}
	clears := "> clear\n< ok\n"
	if isRight {
		checkPaper(t, text, 0, api.OK)
		checkPaper(t, text+clears, 0, api.OK)
		checkPaper(t, text+clears+"< ok\n", at+len(behind)+2, api.ErrSaid)
		checkPaper(t, text+strings.TrimSuffix(clears, "\n"), at+len(behind)+1, api.ErrSaid)
		checkPaper(t, strings.TrimSuffix(text, "\n"), at+len(behind)-1, api.ErrSaid)
		return
	}
	checkPaper(t, text, at, api.ErrSaid)
	checkPaper(t, text+clears, at, api.ErrSaid)
}

// potClay is the clay of the pottery, and chain a store whose moves are held up at more than one place.
const potClay = `accounts 3
move 1 1 0 1 100 110
move 2 2 1 2 0 200
move 3 3 2 0 40 50
count 4 2 1 20 25
count 5 3 2 30 60
`

const chain = `accounts 4
move 1 1 0 1 5 9
move 2 1 1 2 0 9
move 3 1 2 3 0 9
move 4 2 3 0 0 30
count 5 1 1 0 0
count 6 2 2 0 4
`

// stocksOf returns the stocks of a store.
func stocksOf(store api.Store) []api.Stock {
	var l []api.Stock
	for account := 1; account < store.Accounts; account++ {
		for _, day := range must(clay.Days(store)) {
			l = append(l, api.Stock{Account: account, Day: day})
		}
	}
	return l
}

func TestOtherCuts(t *testing.T) {
	right := 0
	for _, script := range []string{potClay, chain} {
		d := told(script)
		store := d.Setting().Store
		stocks := stocksOf(store)
		for i := range 2 * len(store.Moves) {
			move, high := i/2, i%2
			query := fmt.Sprint("cut ", move, " ", high)
			bound := 0
			fmt.Sscanf(d.Do(commandOf(query))[0], "bound %d", &bound)
			for mask := range 64 {
				var cut api.Cut
				var lines []string
				for i, s := range stocks {
					if mask>>i&1 == 1 {
						cut.Stocks = append(cut.Stocks, s)
						lines = append(lines, fmt.Sprint("stock ", s.Account, " ", s.Day))
					}
				}
				is := clay.CheckCut(store, api.What{Move: move}, high == 1, bound, cut) == api.OK
				checkShown(t, script, query, lines, is)
				if is {
					right++
					slices.Reverse(lines)
					checkShown(t, script, query, lines, true)
				}
			}
		}
	}
	if right < 24 {
		t.Error(right)
	}
}

func TestLinesThatTellNoCut(t *testing.T) {
	for _, lines := range [][]string{
		{"stock 1 1", "stock 1 2", "stock 1 2"}, {"stock 1 1", "stock 1 2", "stock 1 1"}, {"stock 1 1", "stock 1 2 "}, {"stock 1 1", " stock 1 2"}, {"stock 1 1", "stock  1 2"}, {"stock 1 1", "stock 01 2"},
		{"stock 1 1", "stock 1 2 0"}, {"stock 1 1", "stock 1"}, {"stock 1 1", "stock"}, {"stock 1 1", "stocks 1 2"}, {"stock 1 1", "1 2"}, {"stock 1 1", ""}, {"stock 1 1", "stock 1 2", ""}, {"", "stock 1 1", "stock 1 2"},
		{"stock 1 1", "stock 1 2", "stock 0 1"}, {"stock 1 1", "stock 1 2", "stock 1 4"}, {"stock 1 1", "stock 1 2", "stock 3 1"}, {"stock 1 1 stock 1 2"}, {"stock 1 1", "stock 1 2", "none"}, {"none"}, {"bound 90", "stock 1 1", "stock 1 2"},
		{"stock 1 1", "stock 1 18446744073709551618"}, {"stock 1 1", "stock 1 +2"}, {"stock 1 1", "stock 1 2", "ok"}, {"stock 1 1", "stock 1,2"}, {"stock 1 1", "stock 1 2\r"}, {"proof 0"}, {"Stock 1 1", "Stock 1 2"},
	} {
		checkShown(t, potClay, "cut 1 1", lines, false)
	}
	checkShown(t, potClay, "cut 1 1", []string{"stock 1 2", "stock 1 1"}, true)
	checkShown(t, potClay, "cut 0 1", []string{"none"}, false)
	checkShown(t, potClay, "cut 0 1", []string{""}, false)
}

// lists returns all lists of so many numbers from -2 to most.
func lists(many, most int) [][]int {
	if many == 0 {
		return [][]int{nil}
	}
	var l [][]int
	for _, rest := range lists(many-1, most) {
		for n := -2; n <= most; n++ {
			l = append(l, append(slices.Clone(rest), n))
		}
	}
	return l
}

// potFiring is a firing of the pottery.
const potFiring = `kiln 0 1 1 1 1 2 100 200
read 0 3 3 1 0 3 0 1010 1020
read 0 3 9 1 0 3 0 900 990
withdraw 0 8 1
`

func TestOtherProofs(t *testing.T) {
	right := 0
	d := told(potFiring)
	for _, known := range []int{2, 3, 9} {
		f := must(trial.Batch(d.Shop(0).Events, 1, known)).Firing
		for i := range 4 {
			place, high := i/2, i%2
			query := fmt.Sprint("prove 0 1 ", place, " ", known, " ", high)
			bound := 0
			fmt.Sscanf(d.Do(commandOf(query))[0], "bound %d", &bound)
			for _, l := range slices.Concat(lists(1, 1), lists(2, 1), lists(3, 0)) {
				is := heat.CheckProof(f, place, high == 1, bound, api.HeatProof{Reading: l[0], By: l[1:]}) == api.OK
				checkShown(t, potFiring, query, []string{"proof " + rowOf(l)}, is)
				if is {
					right++
				}
			}
		}
	}
	if right < 12 {
		t.Error(right)
	}
}

func TestLinesThatTellNoProof(t *testing.T) {
	checkShown(t, potFiring, "prove 0 1 1 3 1", []string{"proof -1 0"}, true)
	for _, lines := range [][]string{
		nil, {""}, {"proof"}, {"proof "}, {"proof -1"}, {"proof  -1 0"}, {"proof -1  0"}, {"proof -1 0 "}, {" proof -1 0"}, {"proof -1 00"}, {"proof -01 0"}, {"proof -1 -0"}, {"proof -1 +0"}, {"proofs -1 0"}, {"-1 0"},
		{"proof -1 0", "proof -1 0"}, {"proof -1 0", ""}, {"", "proof -1 0"}, {"proof -1 0 0"}, {"proof -1 1"}, {"proof 18446744073709551615 0"}, {"proof -1 18446744073709551616"}, {"proof -1,0"}, {"none"}, {"ok"},
		{"proof -1", "0"}, {"proof -1 0", "ok"}, {"bound 1120"}, {"bound 1120", "proof -1 0"}, {"stock 1 1"}, {"proof\t-1 0"}, {"Proof -1 0"}, {"proof -1 0\r"}, {"proof -1 x"}, {"proof -1 0 x"},
	} {
		checkShown(t, potFiring, "prove 0 1 1 3 1", lines, false)
	}
	// The first line of such an answer has to be the one that is due.
	for query, wrong := range map[string]string{"prove 0 1 1 3 1": "bound 1121", "cut 1 1": "bound 91", "cut 1 0": "bound 74"} {
		paper, answer := shown(pottery, query)
		at := strings.Count(paper, "\n") + 1
		for _, first := range []string{wrong, answer[0] + " ", "bound", "", "error 1", answer[1]} {
			checkPaper(t, paper+"< "+first+"\n< "+strings.Join(answer[1:], "\n< ")+"\n", at, api.ErrSaid)
		}
		checkPaper(t, paper, at, api.ErrSaid)
		checkPaper(t, paper+"< "+strings.Join(answer[1:], "\n< ")+"\n", at, api.ErrSaid)
		checkPaper(t, paper+"< "+answer[0]+"\n< "+strings.Join(answer, "\n< ")+"\n", at+1, api.ErrSaid)
	}
	// Other queries have no other answers.
	paper, _ := shown(potClay, "cut 1 1")
	checkPaper(t, strings.Replace(paper, "> cut 1 1", "> weight 1", 1)+"< 75 90\n< stock 1 1\n", strings.Count(paper, "\n")+2, api.ErrSaid)
}

// behindMany is a script that has a proof of a reading with two digits, where one with one does as well.
const behindMany = `kiln 5 1 0 1 2 3 100 200
fall 5 1 0 1 0 1 1000 1100
fall 5 1 0 1 1 0 1000 1100
read 5 1 0 1 0 2 1101 0 0
read 5 1 0 1 1 2 1001 0 0
read 5 1 0 1 1 2 1001 0 0
read 5 1 0 1 1 2 1001 0 0
read 5 1 0 1 1 2 1001 0 0
read 5 1 0 1 1 2 1001 0 0
read 5 1 0 1 1 2 1001 0 0
read 5 1 0 1 1 2 1001 0 0
read 5 1 0 1 1 2 1001 0 0
read 5 1 0 1 1 2 1001 0 0
read 5 1 0 1 1 2 991 0 0
prove 5 1 2 0 1
`

// A paper that is short enough is accepted, also if the transcript of its script would be too long.
func TestPapersOfScriptsWithoutATranscript(t *testing.T) {
	if s := say(told(behindMany), "prove 5 1 2 0 1"); s != "bound 1200; proof -1 0 10" {
		t.Fatal(s)
	}
	script := ofLength(400001, behindMany)
	paper, _ := paperOf(script)
	if _, n, e := desk.Transcript(script); n != 0 || e != api.ErrLong || len(paper) != 400001 {
		t.Error(len(paper), n, e)
	}
	checkPaper(t, paper, 0, api.ErrLong)
	short := strings.Replace(paper, "< proof -1 0 10\n", "< proof -1 0 1\n", 1)
	checkPaper(t, short, 0, api.OK)
	checkPaper(t, strings.TrimSuffix(short, "\n"), strings.Count(short, "\n"), api.ErrSaid)
}
