package bung_test

import (
	"math/rand"
	"strings"
	"testing"

	"potbank/api"
	"potbank/bung"
)

const cLine = "saggar 3 60 60 50 60 100 100 0"

func TestPrint(t *testing.T) {
	for want, x := range map[string]api.Bung{
		"wad 5 10\n" + cLine + "\n": of(c()),
		"wad 5 10\nsaggar 1 100 120 300 350 200 210 5\nsaggar 2 80 90 150 200 200 210 10\n": of(a(), b()),
		"wad 5 10\nsaggar 2 80 90 150 200 200 210 10\nsaggar 1 100 120 300 350 200 210 5\n": of(b(), a()),
		"wad 0 200\nsaggar 999 10000000 10000000 10000000 10000000 10000 10000 200\n":       {Wad: span(0, 200), Saggars: []api.Saggar{greatest(999)}},
		"wad 0 0\nsaggar 1 0 0 0 0 1 1 0\nsaggar 2 0 0 0 0 1 1 0\n":                         {Saggars: light(2)},
	} {
		if s, e := bung.Print(x); s != want || e != api.OK {
			t.Errorf("%q %v", s, e)
		}
	}
}

func TestParseOfPrint(t *testing.T) {
	r := rand.New(rand.NewSource(14))
	for range 500 {
		x := someBung(r, 30)
		text, e := bung.Print(x)
		if e != api.OK {
			t.Fatal(x, e)
		}
		if y, n, e := bung.Parse(text); !isSame(y, x) || n != 0 || e != api.OK {
			t.Fatal(x, y, n, e)
		}
	}
}

func TestParseTakes(t *testing.T) {
	for _, text := range []string{
		"wad 5 10\n" + cLine,
		"wad 5 10\n" + cLine + "\n",
		"\n\n  wad   5 10 \n\n   \n  saggar 3 60  60 50 60 100 100 0  \n\n",
		"# of a bung\n#\nwad 5 10\n#wad 6 6\n" + cLine + "\n#",
	} {
		if x, n, e := bung.Parse(text); !isSame(x, of(c())) || n != 0 || e != api.OK {
			t.Errorf("%q: %v %v %v", text, x, n, e)
		}
	}
}

// checkParse parses a text that is wrong.
func checkParse(t *testing.T, text string, line int, want api.Errno) {
	t.Helper()
	if x, n, e := bung.Parse(text); !isNone(x) || n != line || e != want {
		t.Errorf("%q: %v %v %v", text, x, n, e)
	}
}

// checkWrongLine puts a wrong line behind and ahead of others.
func checkWrongLine(t *testing.T, line string, befores map[string]int) {
	t.Helper()
	for before, at := range befores {
		for _, after := range []string{"", "\n", "\n" + cLine, "\nwrong\n"} {
			checkParse(t, before+line+after, at, api.ErrText)
		}
	}
}

func TestParseOfWrongLines(t *testing.T) {
	first, later := map[string]int{"": 1, "\n# a\n": 3}, map[string]int{
		"wad 5 10\n": 2, "\n# a\nwad 9 9\n\n": 5, "wad 5 10\n" + cLine + "\n": 3, "wad 999 0\n" + cLine + "\n" + cLine + "\n": 4,
	}
	for _, line := range []string{
		cLine, "wad", "wad 5", "wad 5 10 0", "wad 05 10", "wad 5 010", "wad -0 10", "wad -5 10", "wad +5 10", "wad 5 x", "wad x 5", "wad 5 1234567890", "wad 1234567890 5",
		"Wad 5 10", "wads 5 10", "5 10", "wad\t5 10", "wad 5 10\r", "wad 5 10 # it", " # wad 5 10", "\t", "\xff", "wad 5 \u0661", "wad 5 10 " + cLine,
	} {
		checkWrongLine(t, line, first)
	}
	for _, line := range []string{
		"wad 5 10", "saggar", "saggar 3", "saggar 3 60 60 50 60 100 100", cLine + " 0", "3 60 60 50 60 100 100 0", "Saggar 3 60 60 50 60 100 100 0",
		"saggars 3 60 60 50 60 100 100 0", "saggar 03 60 60 50 60 100 100 0", "saggar 3 60 60 50 60 100 100 00", "saggar 3 60 -60 50 60 100 100 0",
		"saggar 3 60 60 +50 60 100 100 0", "saggar 3 60 60 50 1234567890 100 100 0", "saggar 3 60 60 50 60 x 100 0", "saggar 3 60 60 50 60 100 1e2 0",
		"saggar 3 60 60\t50 60 100 100 0", cLine + "\r", cLine + " # it", " #", "\t", "\xff",
	} {
		checkWrongLine(t, line, later)
	}
}

func TestParseOfTextsThatSayNothing(t *testing.T) {
	for text, line := range map[string]int{
		"": 1, "\n": 2, "#": 2, " ": 2, "#\n": 2, "\n\n": 3, "# wad 5 10\n" + "#" + cLine: 3, "\n \n#\n": 4, "\n\n  ": 4,
	} {
		checkParse(t, text, line, api.ErrText)
	}
}

func TestParseOfWrongBungs(t *testing.T) {
	most, _ := bung.Print(of(light(30)...))
	for _, text := range []string{
		"wad 5 10", "wad 5 10\n\n#\n", "wad 10 5\n" + cLine, "wad 5 201\n" + cLine, "wad 5 999999999\n" + cLine, "wad 5 10\nsaggar 0 60 60 50 60 100 100 0",
		"wad 5 10\nsaggar 999999999 60 60 50 60 100 100 0", "wad 5 10\nsaggar 3 61 60 50 60 100 100 0", "wad 5 10\nsaggar 3 60 60 50 60 0 100 0",
		"wad 5 10\nsaggar 3 60 60 50 60 100 100 201", "wad 5 10\n" + cLine + "\n" + cLine, most + "saggar 31 0 0 0 0 1 1 0",
	} {
		checkParse(t, text, 0, api.ErrBung)
		// A wrong line comes first.
		checkParse(t, text+"\nwrong", strings.Count(text, "\n")+2, api.ErrText)
	}
}

func TestParseOfLongTexts(t *testing.T) {
	text := "wad 5 10\n" + cLine + "\n"
	text += strings.Repeat(" ", 20000-len(text))
	if x, n, e := bung.Parse(text); !isSame(x, of(c())) || n != 0 || e != api.OK {
		t.Error(x, n, e)
	}
	for _, long := range []string{text + " ", "wrong\n" + text, strings.Repeat("\n", 20001)} {
		checkParse(t, long, 0, api.ErrLong)
	}
	checkParse(t, strings.Repeat("\n", 20000), 20001, api.ErrText)
	checkParse(t, strings.Repeat("\n", 19999)+"x", 20000, api.ErrText)
}
