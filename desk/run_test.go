package desk_test

import (
	"fmt"
	"math/rand"
	"strings"
	"testing"

	"potbank/api"
	"potbank/desk"
)

// example is the script of the chapter's examples, and what it tells.
const example = `body 1 100 120 50 60 1000 1100
custom 1 0 3 2 0 100 200 300 400 500
kiln 0 1 1 1 1 2 100 200
work 0 1 1 2 1 2 10 3
set 0 2 2 1 0 1 10 3
read 0 3 3 1 0 3 0 1010 1020
drawn 0 4 4 1
heat 0 1 1 3
verdict 0 10 3
posts 0 5
offer 0 1
deliver 0
deliver 0
verdict 1 11 4
withdraw 0 12 3
verdict 0 10 12
balance 0 3 12
counts
`

const exampleTold = `ok
ok
record 0 0
record 0 1
record 0 2
record 0 3
record 0 4
910 1120
yes
4 10 0 3 200
4 11 0 3 200
4 12 0 3 200
slips 1
slips 1
slips 0
yes
record 0 5
maybe
0
records 6
records 5
records 0
records 0
records 0
records 0
`

func TestRunOfTheExample(t *testing.T) {
	if s, n, e := desk.Run(example); s != exampleTold || n != 0 || e != api.OK {
		t.Errorf("%q %v %v", s, n, e)
	}
	paper, n, e := desk.Transcript(example)
	if !strings.HasPrefix(paper, "> body 1 100 120 50 60 1000 1100\n< ok\n> custom 1 ") || !strings.HasSuffix(paper, "> balance 0 3 12\n< 0\n> counts\n< records 6\n< records 5\n< records 0\n< records 0\n< records 0\n< records 0\n") || n != 0 || e != api.OK {
		t.Errorf("%q %v %v", paper, n, e)
	}
	script, said, n, e := desk.Open(paper)
	if script != example || said != exampleTold || n != 0 || e != api.OK {
		t.Errorf("%q %q %v %v", script, said, n, e)
	}
	if n, e := desk.Accept(paper); n != 0 || e != api.OK {
		t.Error(n, e)
	}
}

// paperOf is the transcript of a script, and what it tells, by a clerk.
func paperOf(script string) (paper, told string) {
	k := newClerk()
	for _, line := range linesOf(script) {
		if strings.HasPrefix(line, "#") || strings.Trim(line, " ") == "" {
			continue
		}
		c := commandOf(line)
		answer := k.do(c)
		paper += "> " + lineOf(c) + "\n< " + strings.ReplaceAll(answer, "\n", "\n< ") + "\n"
		told += answer + "\n"
	}
	return paper, told
}

// loose returns a script with lines that say nothing, and more spaces.
func loose(r *rand.Rand, script string) string {
	var l []string
	for _, line := range linesOf(script) {
		switch r.Intn(6) {
		case 0:
			l = append(l, []string{"", "  ", "# kiln", "#" + strings.Repeat("x", 300), strings.Repeat(" ", 300)}[r.Intn(5)])
		case 1:
			line = strings.ReplaceAll(line, " ", "  ") + " "
		case 2:
			line = " " + line
		}
		l = append(l, line)
	}
	return strings.Join(l, "\n") + []string{"", "\n", "\n\n", "\n#", "\n "}[r.Intn(5)]
}

func TestRunAsTheChapterHasIt(t *testing.T) {
	for seed := range 30 {
		r := rand.New(rand.NewSource(int64(2000 + seed)))
		script := loose(r, someScript(r, 20+r.Intn(70)))
		paper, want := paperOf(script)
		if s, n, e := desk.Run(script); s != want || n != 0 || e != api.OK {
			t.Fatalf("%d: %q %v %v", seed, s, n, e)
		}
		if s, n, e := desk.Transcript(script); s != paper || n != 0 || e != api.OK {
			t.Fatalf("%d: %q %v %v", seed, s, n, e)
		}
	}
}

// checkRun compares what Run and Transcript tell of a script that has an error.
func checkRun(t *testing.T, script string, line int, want api.Errno) {
	t.Helper()
	for _, run := range []func(string) (string, int, api.Errno){desk.Run, desk.Transcript} {
		if s, n, e := run(script); s != "" || n != line || e != want {
			t.Errorf("%.60q: %.60q %v %v, not %v %v", script, s, n, e, line, want)
		}
	}
}

// checkRight compares what Run tells of a script that has no error.
func checkRight(t *testing.T, script, told string) {
	t.Helper()
	if s, n, e := desk.Run(script); s != told || n != 0 || e != api.OK {
		t.Errorf("%.60q: %.60q %v %v", script, s, n, e)
	}
	if paper, n, e := desk.Transcript(script); strings.Count(paper, "\n< ") != strings.Count(told, "\n") || n != 0 || e != api.OK {
		t.Errorf("%.60q: %.60q %v %v", script, paper, n, e)
	}
}

func TestErrorsOfScripts(t *testing.T) {
	for script, line := range map[string]int{
		"x": 1, "clear\nx": 2, "\n\n#\n x": 4, "clear\nclear 1\nx": 2, "clear\n\nspot 1\nspot 1 2": 3, "clear\r\nclear": 1, "clear\nspot 1 -0\n": 2, "clear\n#\n\t\n": 3, "> clear": 1,
	} {
		checkRun(t, script, line, api.ErrLine)
	}
	long := "spot 1" + strings.Repeat(" ", 200) + "2"
	checkRun(t, "clear\n"+long, 2, api.ErrLong)
	checkRun(t, "clear\n"+long+"\nx", 2, api.ErrLong)
	checkRun(t, "clear\nx\n"+long, 2, api.ErrLine)
	for script, told := range map[string]string{
		"": "", "\n": "", "#": "", "  \n\n# x\n": "", "clear": "ok\n", "\n clear \n\n": "ok\n", "clear\nclear": "ok\nok\n",
		"#" + strings.Repeat("x", 500): "", strings.Repeat(" ", 500) + "\nclear": "ok\n", "wad 1 2" + strings.Repeat(" ", 193): "ok\n", "pack 6": "error 1\n",
	} {
		checkRight(t, script, told)
	}
}

func TestLimitsOfScripts(t *testing.T) {
	full := strings.Repeat("clear\n", 120)
	checkRight(t, full, strings.Repeat("ok\n", 120))
	checkRight(t, strings.Repeat("#\n \n", 2000)+full+"\n#", strings.Repeat("ok\n", 120))
	checkRun(t, full+"clear", 0, api.ErrLong)
	checkRun(t, full+"x", 0, api.ErrLong)
	checkRun(t, strings.Repeat("x\n", 121), 0, api.ErrLong)
	checkRun(t, strings.Repeat("x\n", 120), 1, api.ErrLine)
	most := "clear\n#" + strings.Repeat("x", 24000-7)
	checkRight(t, most, "ok\n")
	checkRun(t, most+"x", 0, api.ErrLong)
	checkRun(t, "x\n"+most, 0, api.ErrLong)
	checkRight(t, strings.Repeat("\n", 24000), "")
	checkRun(t, strings.Repeat("\n", 24001), 0, api.ErrLong)
	checkRun(t, strings.Repeat("x", 24000), 1, api.ErrLong)
	checkRun(t, strings.Repeat("x", 24001), 0, api.ErrLong)
}

// sizes has scripts of one line behind wide, and how long that and its answer are in a transcript; the longest one first.
func sizes() (lines []string, bytes []int) {
	d := told(wide())
	for firing := 1; firing <= 4; firing++ {
		line := fmt.Sprint("verdicts 0 ", firing, " 1")
		many := len("> " + line + "\n")
		for _, answer := range d.Do(commandOf(line)) {
			many += len("< " + answer + "\n")
		}
		lines, bytes = append(lines, line+"\n"), append(bytes, many)
	}
	return append(lines, "spot 10 10\n"), append(bytes, 18)
}

// wide is a script that sets many pieces into four firings.
func wide() string {
	text := "body 1 100 120 50 60 1000 1100\n"
	for firing, many := range []int{30, 10, 1, 1} {
		text += fmt.Sprint("kiln 0 1 1 ", firing+1, " 1 1 100 200\n")
		for i := range many {
			text += fmt.Sprint("set 0 1 1 ", firing+1, " 0 1 ", 1+2000*firing+40*i, " ", []int{40, 40, 40, 3}[firing], "\n")
		}
	}
	return text
}

// power returns the number 1 with so many digits 0 behind it.
func power(zeros int) string { return "1" + strings.Repeat("0", zeros) }

// ofLength is a script whose transcript has so many bytes, with a script at its end.
func ofLength(many int, last string) string {
	paper, _ := paperOf(wide() + last)
	left := many - len(paper)
	lines, bytes := sizes()
	text := wide()
	for i, line := range lines {
		for ; left >= bytes[i]+16; left -= bytes[i] {
			text += line
		}
	}
	// A line `spot N M` and its answer have 14 bytes and the digits.
	first := min(10, left-15)
	return text + fmt.Sprint("spot ", power(first-1), " ", power(left-15-first), "\n") + last
}

func TestLongTranscripts(t *testing.T) {
	paper, n, e := desk.Transcript(ofLength(400000, "counts"))
	if len(paper) != 400000 || n != 0 || e != api.OK {
		t.Error(len(paper), n, e)
	}
	if n, e := desk.Accept(paper); n != 0 || e != api.OK {
		t.Error(n, e)
	}
	// The second one becomes too long with a line of the script, the others with one of an answer.
	for _, script := range []string{ofLength(400001, "counts"), ofLength(400006, ""), ofLength(400001, ""), wide() + strings.Repeat("verdicts 0 1 1\n", 70)} {
		if s, n, e := desk.Transcript(script); s != "" || n != 0 || e != api.ErrLong {
			t.Error(len(s), n, e)
		}
		if s, n, e := desk.Run(script); len(s) < 300000 || n != 0 || e != api.OK {
			t.Error(len(s), n, e)
		}
	}
}
