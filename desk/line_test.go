package desk_test

import (
	"math"
	"math/rand"
	"slices"
	"strings"
	"testing"

	"potbank/api"
	"potbank/desk"
	"potbank/probe"
)

func isSameCommand(c, d api.Command) bool { return c.Kind == d.Kind && slices.Equal(c.Args, d.Args) }

// isZero reports whether a command is the zero value.
func isZero(c api.Command) bool { return isSameCommand(c, api.Command{}) }

func TestParseOfExamples(t *testing.T) {
	c, n, e := desk.Parse("fall 0 1 1 1 0 1 -5 7")
	if !isSameCommand(c, api.Command{Kind: 21, Args: []int{0, 1, 1, 1, 0, 1, -5, 7}}) || n != 0 || e != api.OK {
		t.Error(c, n, e)
	}
	for line, want := range map[string]int{"heat 0 1 0": 4, "counts 1": 1, "": 0} {
		if c, n, e := desk.Parse(line); !isZero(c) || n != want || e != 100 {
			t.Errorf("%q: %v %v %v", line, c, n, e)
		}
	}
}

// numbersOf returns as many random numbers as a row of the table has.
func numbersOf(r *rand.Rand, f form) []int {
	var l []int
	for range f.names {
		n := r.Intn(2000000001) - 1000000000
		switch r.Intn(4) {
		case 0:
			n = []int{0, 1, -1, 9, 10, -10, 1000000000, -1000000000}[r.Intn(8)]
		case 1:
			n %= 100
		}
		l = append(l, n)
	}
	return l
}

func TestParseAndPrintOfAllCommands(t *testing.T) {
	r := rand.New(rand.NewSource(1))
	if len(forms()) != 58 {
		t.Fatal(len(forms()))
	}
	for _, f := range forms() {
		for range 40 {
			want := api.Command{Kind: f.kind, Args: numbersOf(r, f)}
			line := lineOf(want)
			if s, e := desk.Print(want); s != line || e != api.OK {
				t.Fatalf("%v: %q %v", want, s, e)
			}
			for _, s := range []string{line, "  " + line, line + " ", strings.ReplaceAll(line, " ", "   ")} {
				c, n, e := desk.Parse(s)
				if len(s) <= 200 && (!isSameCommand(c, want) || n != 0 || e != api.OK) {
					t.Fatalf("%q: %v %v %v", s, c, n, e)
				}
			}
		}
	}
}

// wrongWords are no numbers of a command.
func wrongWords() []string {
	return []string{"-", "-0", "+1", "01", "-01", "00", "x", "1x", "1.0", "1e3", "0x1", "--1", "1000000001", "-1000000001", "9999999999", "10000000000",
		"18446744073709551617", "-99999999999999999999", "\t1", "1\n", "1\r", "\u0661", "1\u00a0", "\xff", "1,2", "clear", "#1", "1-"}
}

func TestParseTellsTheFirstWrongWord(t *testing.T) {
	for _, f := range forms() {
		line := f.word
		for i := range f.names {
			if c, n, e := desk.Parse(line); !isZero(c) || n != i+1 || e != api.ErrLine {
				t.Errorf("%q: %v %v %v", line, c, n, e)
			}
			for _, word := range wrongWords() {
				for _, behind := range []string{"", " 1", " x", strings.Repeat(" 1", 20)} {
					if c, n, e := desk.Parse(line + " " + word + behind); !isZero(c) || n != i+1 || e != api.ErrLine {
						t.Errorf("%q: %v %v %v", line+" "+word+behind, c, n, e)
					}
				}
			}
			line += " 7"
		}
		for _, more := range []string{" 7", " x", " 7 7", "  -0 "} {
			if c, n, e := desk.Parse(line + more); !isZero(c) || n != len(f.names)+1 || e != api.ErrLine {
				t.Errorf("%q: %v %v %v", line+more, c, n, e)
			}
		}
	}
}

func TestParseOfOtherWords(t *testing.T) {
	for _, line := range []string{
		" ", "    ", "#", "# clear", "#clear", " # clear", "Clear", "CLEAR", "clears", "clea", "1", "14", "-1", "clear\n", "clear\nclear", "\nclear", "clear\r", "clear\t",
		"\tclear", "clear\x00", "clear\u00a0", "clear,", "> clear", "kiln\t0 1 1 1 1 2 100 200", "\xff", "none 1 2 x", "shape,", "\u00e4",
	} {
		if c, n, e := desk.Parse(line); !isZero(c) || n != 0 || e != api.ErrLine {
			t.Errorf("%q: %v %v %v", line, c, n, e)
		}
	}
}

func TestLongLines(t *testing.T) {
	for _, line := range []string{"clear", "spot 1 2", "# no", "", "x", "clear 1"} {
		full := line + strings.Repeat(" ", 200-len(line))
		c, n, e := desk.Parse(line)
		if d, m, f := desk.Parse(full); !isSameCommand(c, d) || m != n || f != e {
			t.Errorf("%q: %v %v %v", line, d, m, f)
		}
		if c, n, e := desk.Parse(full + " "); !isZero(c) || n != 0 || e != api.ErrLong {
			t.Errorf("%q: %v %v %v", line, c, n, e)
		}
	}
	if c, n, e := desk.Parse(strings.Repeat("clear ", 100000)); !isZero(c) || n != 0 || e != api.ErrLong {
		t.Error(c, n, e)
	}
}

// wrongCommands returns commands that are not right.
func wrongCommands() []api.Command {
	l := []api.Command{{}}
	for _, kind := range append(probe.WrongNumbers(1, 76), 0, 15, 19, 31, 39, 46, 49, 77, 100) {
		l = append(l, api.Command{Kind: kind}, api.Command{Kind: kind, Args: []int{1}}, api.Command{Kind: kind, Args: []int{1, 1}})
	}
	for _, f := range forms() {
		args := slices.Repeat([]int{1}, len(f.names))
		l = append(l, api.Command{Kind: f.kind, Args: append(slices.Clone(args), 1)})
		for i := range args {
			l = append(l, api.Command{Kind: f.kind, Args: args[:i]})
			for _, n := range []int{1000000001, -1000000001, math.MaxInt, math.MinInt} {
				wrong := slices.Clone(args)
				wrong[i] = n
				l = append(l, api.Command{Kind: f.kind, Args: wrong})
			}
		}
	}
	return l
}

func TestCommandsThatAreNotRight(t *testing.T) {
	d := told(setUp + opening + "offer 0 1\n")
	was := stateOf(d)
	for _, c := range wrongCommands() {
		if s, e := desk.Print(c); s != "" || e != api.ErrLine {
			t.Errorf("%v: %q %v", c, s, e)
		}
		if l := d.Do(c); !slices.Equal(l, []string{"error 100"}) {
			t.Errorf("%v: %q", c, l)
		}
	}
	if !isSameState(stateOf(d), was) {
		t.Error("something has changed")
	}
}

// Whatever bytes a line has: what is read is printed as a line with the same command.
func TestPrintOfWhatIsParsed(t *testing.T) {
	r := rand.New(rand.NewSource(2))
	read := 0
	for range 50000 {
		f := forms()[r.Intn(58)]
		words := []string{f.word}
		for range f.names {
			words = append(words, []string{"0", "1", "-1", "12", "-0", "01", "x"}[max(0, r.Intn(90)-83)])
		}
		line := strings.Repeat(" ", r.Intn(3)) + strings.Join(words, strings.Repeat(" ", 1+r.Intn(2)))
		if r.Intn(3) == 0 {
			at := r.Intn(len(line))
			line = line[:at] + string(rune(r.Intn(130))) + line[at:]
		}
		c, n, e := desk.Parse(line)
		if e != api.OK {
			if !isZero(c) || n > len(words)+1 {
				t.Fatalf("%q: %v %v", line, c, n)
			}
			continue
		}
		read++
		printed, e := desk.Print(c)
		d, n, f2 := desk.Parse(printed)
		if e != api.OK || f2 != api.OK || n != 0 || !isSameCommand(c, d) || printed != strings.Join(strings.Fields(line), " ") {
			t.Fatalf("%q: %q", line, printed)
		}
	}
	if read < 12000 {
		t.Error(read)
	}
}

func TestArgumentsOfCommandsAreNotKept(t *testing.T) {
	for _, f := range forms() {
		c := commandOf(f.word + strings.Repeat(" 1", len(f.names)))
		was := slices.Clone(c.Args)
		c.Args = append(c.Args, 77)[:len(was)]
		d := told(setUp + opening)
		d.Do(c)
		if _, e := desk.Print(c); e != api.OK || !slices.Equal(c.Args, was) || c.Args[:len(was)+1][len(was)] != 77 {
			t.Error(f.word)
		}
		now := stateOf(d)
		for i := range c.Args {
			c.Args[i] = 55
		}
		if !isSameState(stateOf(d), now) {
			t.Error(f.word)
		}
	}
}
