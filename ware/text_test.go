package ware_test

import (
	"math/rand"
	"slices"
	"strings"
	"testing"

	"potbank/api"
	"potbank/ware"
)

const (
	bowlLine = "shape 7 100 102 100 102 50 51 10 200 210 1000"
	clayLine = "body 1 100 120 50 60 1000 1100"
)

func areSame(a, b api.Wares) bool {
	return slices.Equal(a.Shapes, b.Shapes) && slices.Equal(a.Bodies, b.Bodies)
}

func bowlAndClay() api.Wares {
	return api.Wares{Shapes: []api.Shape{bowl()}, Bodies: []api.Body{clay()}}
}

func TestPrint(t *testing.T) {
	if s, e := ware.Print(bowlAndClay()); s != bowlLine+"\n"+clayLine+"\n" || e != api.OK {
		t.Error(s, e)
	}
	if s, e := ware.Print(api.Wares{}); s != "" || e != api.OK {
		t.Error(s, e)
	}
	for _, w := range wrongWares() {
		if s, e := ware.Print(w); s != "" || e != api.ErrWares {
			t.Error(s, e)
		}
	}
}

func TestParseOfPrint(t *testing.T) {
	bigShape, bigBody := widest()
	smallShape, smallBody := least()
	all := []api.Wares{
		{},
		bowlAndClay(),
		manyWares(api.MaxShapes, api.MaxBodies),
		{Shapes: []api.Shape{smallShape, bigShape}, Bodies: []api.Body{smallBody, bigBody}},
	}
	r := rand.New(rand.NewSource(12))
	for range 300 {
		w := manyWares(r.Intn(api.MaxShapes+1), r.Intn(api.MaxBodies+1))
		for i := range w.Shapes {
			s := randomShape(r)
			s.Id = w.Shapes[i].Id
			w.Shapes[i] = s
		}
		for i := range w.Bodies {
			b := randomBody(r)
			b.Id = w.Bodies[i].Id
			w.Bodies[i] = b
		}
		all = append(all, w)
	}
	for _, w := range all {
		text, e := ware.Print(w)
		if e != api.OK {
			t.Fatal(w, e)
		}
		if got, n, e := ware.Parse(text); !areSame(got, w) || n != 0 || e != api.OK {
			t.Fatal(text, got, n, e)
		}
	}
}

func TestParseTakes(t *testing.T) {
	for _, text := range []string{
		bowlLine + "\n" + clayLine,
		bowlLine + "\n" + clayLine + "\n\n\n",
		clayLine + "\n" + bowlLine + "\n",
		"  shape   7 100 102  100 102 50 51 10 200 210 1000 \n    \n" + clayLine + "  ",
		"# wares\n\n#" + bowlLine + "\n" + bowlLine + "\n#\n" + clayLine,
		"#\t\xff\r\n" + bowlLine + "\n" + clayLine,
	} {
		if w, n, e := ware.Parse(text); !areSame(w, bowlAndClay()) || n != 0 || e != api.OK {
			t.Errorf("%q: %v %v %v", text, w, n, e)
		}
	}
	for _, text := range []string{"", "\n", " ", "#", "# shape\n"} {
		if w, n, e := ware.Parse(text); !areSame(w, api.Wares{}) || n != 0 || e != api.OK {
			t.Errorf("%q: %v %v %v", text, w, n, e)
		}
	}
	mixed := "body 1 0 0 0 0 1 1\nshape 1 0 0 0 0 0 0 0 0 0 0\nbody 2 0 0 0 0 1 1\nshape 2 0 0 0 0 0 0 0 0 0 0\n"
	want := api.Wares{
		Shapes: []api.Shape{{Id: 1}, {Id: 2}},
		Bodies: []api.Body{{Id: 1, Heat: span(1, 1)}, {Id: 2, Heat: span(1, 1)}},
	}
	if w, n, e := ware.Parse(mixed); !areSame(w, want) || n != 0 || e != api.OK {
		t.Error(w, n, e)
	}
}

func TestParseOfWrongLines(t *testing.T) {
	for _, line := range []string{
		"bowl 1", "shape", "body", "7", "Shape" + bowlLine[5:], "shapes" + bowlLine[5:], "s" + bowlLine, " # shape",
		bowlLine + " 1", strings.TrimSuffix(bowlLine, " 1000"), clayLine + " 1", strings.TrimSuffix(clayLine, " 1100"),
		strings.Replace(clayLine, "body", "shape", 1), strings.Replace(bowlLine, "shape", "body", 1),
		strings.Replace(clayLine, " 50 ", " 050 ", 1), strings.Replace(clayLine, " 50 ", " 00 ", 1),
		strings.Replace(clayLine, " 50 ", " +50 ", 1), strings.Replace(clayLine, " 50 ", " -50 ", 1),
		strings.Replace(clayLine, " 50 ", " -0 ", 1), strings.Replace(clayLine, " 50 ", " 5_0 ", 1),
		strings.Replace(clayLine, " 50 ", " 0x5 ", 1), strings.Replace(clayLine, " 50 ", " 5e1 ", 1),
		strings.Replace(clayLine, " 50 ", " 5/ ", 1), strings.Replace(clayLine, " 50 ", " 5: ", 1),
		strings.Replace(clayLine, " 50 ", " 12345678 ", 1), strings.Replace(clayLine, " 50 ", " 99999999999999999999 ", 1),
		strings.Replace(clayLine, " 50 ", " 00000050 ", 1), strings.Replace(clayLine, " 50 ", "\t50 ", 1),
		strings.Replace(clayLine, " 50 ", "\u00a050 ", 1), strings.Replace(clayLine, " 50 ", " \u0665\u0660 ", 1),
		clayLine + "\r", clayLine + " # a body", "\t", "\r", "\xff", "\x00",
	} {
		for before, at := range map[string]int{"": 1, clayLine + "\n": 2, "#\n\n" + bowlLine + "\n": 4} {
			if w, n, e := ware.Parse(before + line); !areSame(w, api.Wares{}) || n != at || e != api.ErrText {
				t.Errorf("%q: %v %v %v", before+line, w, n, e)
			}
			if w, n, e := ware.Parse(before + line + "\nbowl\n"); !areSame(w, api.Wares{}) || n != at || e != api.ErrText {
				t.Errorf("%q is the first one: %v %v %v", before+line, w, n, e)
			}
		}
	}
}

func TestParseOfWrongWares(t *testing.T) {
	both := bowlLine + "\n" + clayLine + "\n"
	for _, text := range []string{
		both + both, both + bowlLine, both + clayLine,
		both + "shape 6 0 0 0 0 0 0 0 0 0 0",
		"body 2 0 0 0 0 1 1\nbody 1 0 0 0 0 1 1\n",
		"shape 0 0 0 0 0 0 0 0 0 0 0", "body 1 0 0 0 0 0 1",
		strings.Replace(bowlLine, " 1000", " 1000001", 1),
		strings.Replace(bowlLine, " 1000", " 9999999", 1),
		strings.Replace(clayLine, "100 120", "120 100", 1),
	} {
		if w, n, e := ware.Parse(text); !areSame(w, api.Wares{}) || n != 0 || e != api.ErrWares {
			t.Errorf("%q: %v %v %v", text, w, n, e)
		}
		if w, n, e := ware.Parse(text + "\n\nbowl"); !areSame(w, api.Wares{}) || n != strings.Count(text, "\n")+3 || e != api.ErrText {
			t.Errorf("%q, a wrong line comes first: %v %v %v", text, w, n, e)
		}
	}
}

func TestParseOfLongTexts(t *testing.T) {
	text := bowlLine + "\n" + clayLine + "\n"
	text += strings.Repeat(" ", api.MaxWareLen-len(text))
	if w, n, e := ware.Parse(text); !areSame(w, bowlAndClay()) || n != 0 || e != api.OK {
		t.Error(w, n, e)
	}
	for _, long := range []string{text + " ", text + "\n", "bowl\n" + text, strings.Repeat("\n", api.MaxWareLen+1)} {
		if w, n, e := ware.Parse(long); !areSame(w, api.Wares{}) || n != 0 || e != api.ErrLong {
			t.Error(w, n, e)
		}
	}
	if w, n, e := ware.Parse(strings.Repeat("\n", api.MaxWareLen-1) + "x"); !areSame(w, api.Wares{}) || n != api.MaxWareLen || e != api.ErrText {
		t.Error(w, n, e)
	}
}

func TestParseOfAnyText(t *testing.T) {
	r := rand.New(rand.NewSource(13))
	parts := []string{" ", "\n", "\n", "#", "-", "0", "7", "120", "shape", "body", bowlLine, clayLine, "\xc3", "\t"}
	for range 20000 {
		var text strings.Builder
		for range r.Intn(12) {
			text.WriteString(parts[r.Intn(len(parts))])
		}
		w, n, e := ware.Parse(text.String())
		switch e {
		case api.OK:
			again, f := ware.Print(w)
			if same, _, g := ware.Parse(again); n != 0 || f != api.OK || g != api.OK || !areSame(same, w) {
				t.Fatalf("%q: %v %v", text.String(), w, n)
			}
		case api.ErrText:
			if n < 1 || n > 1+strings.Count(text.String(), "\n") || !areSame(w, api.Wares{}) {
				t.Fatalf("%q: %v %v", text.String(), w, n)
			}
		case api.ErrWares:
			if n != 0 || !areSame(w, api.Wares{}) {
				t.Fatalf("%q: %v %v", text.String(), w, n)
			}
		default:
			t.Fatalf("%q: %v", text.String(), e)
		}
	}
}
