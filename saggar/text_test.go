package saggar_test

import (
	"math/rand"
	"slices"
	"strings"
	"testing"

	"potbank/api"
	"potbank/saggar"
)

func TestPrint(t *testing.T) {
	for want, p := range map[string][]api.Stand{
		"":                              nil,
		"stand 0 0\nstand 1 2 turned\n": {at(0, 0), turned(1, 2)},
		"stand 5 0 turned\nstand 0 5\nstand 5 5\nstand 5 5\nstand 0 1\n": {turned(5, 0), at(0, 5), at(5, 5), at(5, 5), at(0, 1)},
	} {
		if s, e := saggar.Print(p); s != want || e != api.OK {
			t.Errorf("%q %v", s, e)
		}
	}
	if s, e := saggar.Print(slices.Repeat([]api.Stand{at(0, 0)}, api.MaxItems+1)); s != "" || e != api.ErrPack {
		t.Errorf("%q %v", s, e)
	}
	for _, n := range wrongNumbers(0, api.MaxSide-1) {
		for _, wrong := range []api.Stand{at(n, 0), at(0, n), turned(n, n)} {
			if s, e := saggar.Print([]api.Stand{at(0, 0), wrong}); s != "" || e != api.ErrPack {
				t.Errorf("%q %v", s, e)
			}
		}
	}
}

func TestParseOfPrint(t *testing.T) {
	r := rand.New(rand.NewSource(10))
	for range 1000 {
		p := make([]api.Stand, r.Intn(api.MaxItems+1))
		for i := range p {
			p[i] = api.Stand{Y: r.Intn(api.MaxSide), X: r.Intn(api.MaxSide), Turned: r.Intn(2) == 0}
		}
		text, e := saggar.Print(p)
		if e != api.OK {
			t.Fatal(p, e)
		}
		if q, n, e := saggar.Parse(text); !slices.Equal(q, p) || n != 0 || e != api.OK {
			t.Fatal(p, q, n, e)
		}
	}
}

func TestParseTakes(t *testing.T) {
	for _, text := range []string{
		"stand 0 0\nstand 1 2 turned",
		"  stand   0 0 \n\n   \nstand 1 2  turned  \n\n",
		"# of a saggar\nstand 0 0\n#stand 3 3\nstand 1 2 turned\n#",
	} {
		if p, n, e := saggar.Parse(text); !slices.Equal(p, []api.Stand{at(0, 0), turned(1, 2)}) || n != 0 || e != api.OK {
			t.Errorf("%q: %v %v %v", text, p, n, e)
		}
	}
	for _, text := range []string{"", "\n", " \n#\n"} {
		if p, n, e := saggar.Parse(text); len(p) != 0 || n != 0 || e != api.OK {
			t.Errorf("%q: %v %v %v", text, p, n, e)
		}
	}
}

func TestParseOfWrongLines(t *testing.T) {
	for _, line := range []string{
		"stand", "stand 0", "stand 0 0 0", "stand 0 0 turned turned", "stand 0 0 turned 0", "stand 0 0 not", "stand 0 turned 0", "stand 0 turned", "stand turned",
		"0 0", "turned 0 0", "stands 0 0", "Stand 0 0", "stand 0 0 Turned", "stand 00 0", "stand 0 01", "stand 10 0", "stand 0 10",
		"stand -0 0", "stand 0 -1", "stand +1 0", "stand 0 x", "stand 0\t0", "stand 0 0\r", "stand 0 0 # it", " # stand", "\t", "\xff", "stand 0 \u0660",
	} {
		for before, at := range map[string]int{"": 1, "stand 0 0\n": 2, "\n# a\nstand 9 9\n": 4} {
			for _, after := range []string{"", "\n", "\nstand 0 0", "\nwrong\n"} {
				if p, n, e := saggar.Parse(before + line + after); len(p) != 0 || n != at || e != api.ErrText {
					t.Errorf("%q: %v %v %v", before+line+after, p, n, e)
				}
			}
		}
	}
}

func TestParseOfWrongStands(t *testing.T) {
	for _, text := range []string{"stand 6 0", "stand 0 6", "stand 9 9 turned\n", "stand 0 0\nstand 0 7", strings.Repeat("stand 0 0\n", api.MaxItems+1)} {
		if p, n, e := saggar.Parse(text); len(p) != 0 || n != 0 || e != api.ErrPack {
			t.Errorf("%q: %v %v %v", text, p, n, e)
		}
		if p, n, e := saggar.Parse(text + "\nwrong"); len(p) != 0 || n != strings.Count(text, "\n")+2 || e != api.ErrText {
			t.Errorf("%q, a wrong line comes first: %v %v %v", text, p, n, e)
		}
	}
}

func TestParseOfLongTexts(t *testing.T) {
	text := "stand 0 1\n" + strings.Repeat(" ", 390)
	if p, n, e := saggar.Parse(text); !slices.Equal(p, []api.Stand{at(0, 1)}) || n != 0 || e != api.OK {
		t.Error(p, n, e)
	}
	for _, long := range []string{text + " ", "wrong\n" + text, strings.Repeat("stand 9 9\n", 41), strings.Repeat("\n", 401)} {
		if p, n, e := saggar.Parse(long); len(p) != 0 || n != 0 || e != api.ErrLong {
			t.Error(p, n, e)
		}
	}
	if p, n, e := saggar.Parse(strings.Repeat("\n", 399) + "x"); len(p) != 0 || n != 400 || e != api.ErrText {
		t.Error(p, n, e)
	}
}
