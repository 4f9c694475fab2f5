package desk_test

import (
	"fmt"
	"math/rand"
	"slices"
	"strings"
	"testing"

	"potbank/api"
	"potbank/clay"
	"potbank/desk"
	"potbank/heat"
	"potbank/trial"
)

// numbersBehind returns the numbers behind the mark and a word of a line; nil if it is another line.
func numbersBehind(line, word string) []int {
	words := strings.Fields(line)
	if len(words) < 3 || words[1] != word {
		return nil
	}
	l := make([]int, len(words)-2)
	for i := range l {
		fmt.Sscan(words[i+2], &l[i])
	}
	if line != "< "+word+" "+rowOf(l) {
		return nil
	}
	return l
}

// shows reports whether lines show what the first line of an answer tells.
func (k *clerk) shows(c api.Command, first string, behind []string) bool {
	n := 0
	fmt.Sscanf(first, "bound %d", &n)
	high := c.Args[len(c.Args)-1] == 1
	if formOf(c.Kind).word == "prove" {
		if len(behind) != 1 || numbersBehind(behind[0], "proof") == nil {
			return false
		}
		l := numbersBehind(behind[0], "proof")
		f := must(trial.Batch(k.shop(c.Args[0]).Events, c.Args[1], c.Args[3])).Firing
		return heat.CheckProof(f, c.Args[2], high, n, api.HeatProof{Reading: l[0], By: l[1:]}) == api.OK
	}
	var cut api.Cut
	for _, line := range behind {
		l := numbersBehind(line, "stock")
		if len(l) != 2 {
			return false
		}
		cut.Stocks = append(cut.Stocks, api.Stock{Account: l[0], Day: l[1]})
	}
	return clay.CheckCut(k.setting.Store, api.What{Move: c.Args[0]}, high, n, cut) == api.OK
}

// next tells how many lines of a paper are a command and its right answer; false if the line behind these is wrong.
func (k *clerk) next(c api.Command, lines []string) (int, bool) {
	due := linesOf(k.do(c))
	many := 1
	for many < len(lines) && strings.HasPrefix(lines[many], "< ") {
		many++
	}
	isFree := strings.HasPrefix(due[0], "bound")
	for i, line := range due {
		if isFree && i == 1 {
			break
		}
		if i+1 >= many || lines[i+1] != "< "+line {
			return i + 1, false
		}
	}
	if isFree && !k.shows(c, due[0], lines[2:many]) {
		return 2, false
	}
	if isFree {
		return many, true
	}
	return len(due) + 1, true
}

// wrongScript returns the first error of the lines of a paper, ahead of what is said.
func wrongScript(lines []string) (int, api.Errno) {
	asked, long, first, firstError := 0, 0, 0, api.OK
	for i, line := range lines {
		if !strings.HasPrefix(line, "> ") && !strings.HasPrefix(line, "< ") {
			return i + 1, api.ErrPaper
		}
	}
	for i, line := range lines {
		text, isAsked := strings.CutPrefix(line, "> ")
		if !isAsked {
			continue
		}
		if c, _, e := desk.Parse(text); strings.Trim(text, " ") == "" || text[0] == '#' || e == api.OK && lineOf(c) != text {
			return i + 1, api.ErrPaper
		} else if e != api.OK && first == 0 {
			first, firstError = i+1, e
		}
		asked++
		long += len(text) + 1
	}
	if asked > 120 || long > 24000 {
		return 0, api.ErrLong
	}
	return first, firstError
}

// accept is what Accept does, as the chapter's text has it.
func accept(paper string) (int, api.Errno) {
	if len(paper) > 400000 {
		return 0, api.ErrLong
	}
	if paper == "" {
		return 0, api.OK
	}
	lines := linesOf(paper)
	if n, e := wrongScript(lines); e != api.OK {
		return n, e
	}
	k := newClerk()
	at := 0
	for at < len(lines) {
		text, isAsked := strings.CutPrefix(lines[at], "> ")
		if !isAsked {
			return at + 1, api.ErrSaid
		}
		many, isRight := k.next(commandOf(text), lines[at:])
		if at += many; !isRight {
			return at + 1, api.ErrSaid
		}
	}
	if !strings.HasSuffix(paper, "\n") {
		return len(lines), api.ErrSaid
	}
	return 0, api.OK
}

// tail returns random lines such as stand behind the first one of an answer that shows something.
func tail(r *rand.Rand) string {
	l := []int{r.Intn(4) - 2}
	for range r.Intn(3) {
		l = append(l, r.Intn(4)-2)
	}
	if r.Intn(2) == 0 {
		return "< proof " + rowOf(l)
	}
	return fmt.Sprint("< stock ", 1+r.Intn(2), " ", r.Intn(4))
}

// spoil changes something of the lines of a paper.
func spoil(r *rand.Rand, lines []string) []string {
	i, k := r.Intn(len(lines)), r.Intn(len(lines))
	line := lines[i]
	if len(line) < 3 {
		return lines
	}
	switch r.Intn(12) {
	case 0:
		return slices.Delete(lines, i, i+1)
	case 1:
		return slices.Insert(lines, i, line)
	case 2:
		lines[i], lines[k] = lines[k], line
	case 3:
		at := r.Intn(len(line))
		lines[i] = line[:at] + string("0129 -x><#"[r.Intn(10)]) + line[at:]
	case 4:
		at := r.Intn(len(line))
		lines[i] = line[:at] + line[at+1:]
	case 5:
		lines[i] = line + []string{" ", " 1", "x", "\r"}[r.Intn(4)]
	case 6:
		lines[i] = "> " + line[2:]
	case 7:
		return slices.Insert(lines, i, "> "+lineOf(someOf(r)))
	case 8:
		return slices.Insert(lines, i, []string{"> ", "> #", ">", "", "< ", "> x", "> clear ", "< ok", "> " + strings.Repeat("x", 201)}[r.Intn(9)])
	default:
		// What shows something is found near to its first line.
		for i, line := range lines[:len(lines)-1] {
			if strings.HasPrefix(line, "< bound") && r.Intn(3) == 0 {
				if r.Intn(2) == 0 {
					lines[i+1] = tail(r)
					return lines
				}
				return slices.Insert(lines, i+1, tail(r))
			}
		}
	}
	return lines
}

// showing is a script that asks for much that has to be shown.
func showing(r *rand.Rand) string {
	text := potClay + potFiring
	for range 12 {
		text += fmt.Sprint("cut ", r.Intn(3), " ", r.Intn(2), "\n", "prove 0 1 ", r.Intn(2), " ", 2+r.Intn(8), " ", r.Intn(2), "\n")
		if r.Intn(2) == 0 {
			text += lineOf(someOf(r)) + "\n"
		}
	}
	return text
}

func TestAcceptAsTheChapterHasIt(t *testing.T) {
	tally := map[api.Errno]int{}
	for seed := range 30 {
		r := rand.New(rand.NewSource(int64(8000 + seed)))
		paper, _, e := desk.Transcript(showing(r))
		if n, f := accept(paper); e != api.OK || n != 0 || f != api.OK {
			t.Fatal(seed, e, n, f)
		}
		for range 50 {
			lines := linesOf(paper)
			for range 1 + r.Intn(3)*r.Intn(2) {
				lines = spoil(r, lines)
			}
			text := strings.Join(lines, "\n") + []string{"\n", "\n", "\n", ""}[r.Intn(4)]
			want, e := accept(text)
			if n, f := desk.Accept(text); n != want || f != e {
				t.Fatalf("%d: %v %v, not %v %v:\n%s", seed, n, f, want, e, text)
			}
			tally[e]++
		}
	}
	for _, e := range []api.Errno{api.OK, api.ErrLine, api.ErrSaid, api.ErrPaper} {
		if tally[e] < 15 {
			t.Error(e, tally[e])
		}
	}
}

// Whatever bytes there are, nothing panics.
func TestStrangeTexts(t *testing.T) {
	r := rand.New(rand.NewSource(9))
	paper, _, _ := desk.Transcript(showing(r))
	for range 300 {
		b := []byte(paper)
		for range 1 + r.Intn(40) {
			b[r.Intn(len(b))] = byte(r.Intn(256))
		}
		text := string(b)
		if n, e := desk.Accept(text); (e == api.OK) != (n == 0) && e != api.ErrLong {
			t.Fatal(n, e)
		}
		script, told, n, e := desk.Open(text)
		if (e == api.OK) != (n == 0) || e != api.OK && script+told != "" {
			t.Fatal(n, e)
		}
		for _, s := range []string{script, text} {
			if told, n, e := desk.Run(s); e != api.OK && (told != "" || n == 0 && e != api.ErrLong) {
				t.Fatal(n, e)
			}
		}
	}
}
