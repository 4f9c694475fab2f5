package trial_test

import (
	"math/rand"
	"strings"
	"testing"

	"potbank/api"
	"potbank/trial"
)

func TestWrite(t *testing.T) {
	for _, x := range []struct {
		x    api.Event
		text string
	}{
		{history()[0], "1 1 2 100 200"}, {history()[1], "1 0 1 10 3"}, {history()[2], "1 0 3 0 1010 1020"}, {history()[3], "1"},
		{history()[4], "10 2"}, {history()[6], ""}, {eventOf(0), ""}, {eventOf(1), "3 2 4 5 6"}, {eventOf(2), "3 1 4 5 6"}, {eventOf(3), "3 4 5 6 7"},
		{eventOf(4), "3 4 3 0 5 6"}, {eventOf(5), "3"}, {eventOf(6), "3 4"}, {eventOf(7), "3 4"}, {eventOf(8), "3 4"},
		{bent(1, 2, 3, 4, 5), "3 4 1 5 0 0"}, {standing(1, 2, 99, 23, 2000), "99 23 2 2000 0 0"}, {kiln(0, 0, 1, 6, 24, 0, 3000), "1 6 24 0 3000"},
		{fall(0, 0, 1, 0, 0, 0, 0), "1 0 0 0 0"}, {set(0, 0, 1, 0, 999, 9999, 1), "1 0 999 9999 1"}, {sold(5, 6, 9960, 40), "9960 40"},
	} {
		if text, e := trial.Write(x.x); text != x.text || e != api.OK {
			t.Error(x, text, e)
		}
		if y, e := trial.Read(x.x, x.text); y != x.x || e != api.OK {
			t.Error(x, y, e)
		}
	}
	for _, x := range wrongEvents() {
		if text, e := trial.Write(x); text != "" || e != api.ErrEvent {
			t.Error(x, text, e)
		}
	}
}

// headOf returns an event of which all fields but those that Read takes are wrong.
func headOf(x api.Event) api.Event {
	return api.Event{
		At: x.At, Kind: x.Kind, Day: x.Day, Known: x.Known, Of: x.Of,
		Firing: -1, Mouth: -2, Place: 77, Body: -4, First: 12345, Many: -6, Fall: span(9, -9), Reading: api.Reading{Source: -5, Place: 99, Mark: -1},
	}
}

func TestReadOfWrite(t *testing.T) {
	r := rand.New(rand.NewSource(3))
	l := rightEvents()
	for range 300 {
		l = append(l, someEvents(r, 3, 8)...)
	}
	for kind := range 9 {
		l = append(l, eventOf(kind))
	}
	for _, x := range l {
		text, e := trial.Write(x)
		if e != api.OK {
			t.Fatal(x, e)
		}
		for _, of := range []api.Event{x, headOf(x)} {
			if y, e := trial.Read(of, text); y != x || e != api.OK {
				t.Fatal(of, text, y, e)
			}
		}
	}
}

// wrongTexts lists texts near to one of an event that are not of its form.
func wrongTexts(text string) []string {
	l := []string{
		text + " ", " " + text, text + "\n", "\n" + text, text + " 1", text + " 0", "0" + text, "+" + text, "-" + text, text + "x", text + " x",
		text + "\x00", text + ".0", "# " + text, "\t" + text, text + "\r\n", text + "\t", text + "\u00a0", "\uff11 " + text,
	}
	words := strings.Split(text, " ")
	for i, word := range words {
		for _, wrong := range []string{"", "-1", "+1", "01", "-0", "00", "x", word + "x", " " + word, "-" + word, "0" + word, "0x1", "1e1", "\u0661", "99999", "18446744073709551617", "100000000000000000000"} {
			l = append(l, strings.Join(append(append(append([]string{}, words[:i]...), wrong), words[i+1:]...), " "))
		}
		l = append(l, strings.Join(append(append([]string{}, words[:i]...), words[i+1:]...), " "))
	}
	if len(words) > 1 {
		l = append(l, strings.ReplaceAll(text, " ", "  "), strings.ReplaceAll(text, " ", "\t"), strings.ReplaceAll(text, " ", ","), strings.Replace(text, " ", "", 1), strings.ReplaceAll(text, " ", "\n"))
	}
	return l
}

func TestReadRefusesTexts(t *testing.T) {
	for _, x := range append(rightEvents(), eventOf(1), eventOf(3), eventOf(4)) {
		text, _ := trial.Write(x)
		if text == "" {
			continue
		}
		for _, wrong := range append(wrongTexts(text), "") {
			y, e := trial.Read(x, wrong)
			if e == api.OK {
				// What is read is another event, of just this text.
				if again, f := trial.Write(y); again != wrong || f != api.OK {
					t.Error(x, wrong, y, again)
				}
				continue
			}
			if y != (api.Event{}) || e != api.ErrEvent {
				t.Error(x, wrong, y, e)
			}
		}
	}
	for _, x := range []struct {
		kind int
		text string
	}{
		{0, "0"}, {0, " "}, {0, "\n"}, {0, "1 2"}, {1, ""}, {1, "1 1 2 100"}, {1, "1 1 2 100 200 300"}, {1, "1 1 2 200 100"}, {1, "1 0 2 100 200"}, {1, "1 7 2 100 200"},
		{1, "1 1 25 100 200"}, {1, "100 1 2 100 200"}, {1, "0 1 2 100 200"}, {1, "1 1 2 100 3001"}, {1, "1 1 2  100 200"}, {1, "1 1 2 100 200 "}, {1, "01 1 2 100 200"},
		{2, "1 6 2 100 200"}, {2, "1 5 24 100 200"}, {3, "1 0 1 10"}, {3, "1 0 1 10 41"}, {3, "1 0 1 9999 2"}, {3, "1 24 1 10 3"}, {3, "1 0 1000 10 3"},
		{4, "1 0 3 0 1010"}, {4, "1 0 3 1 1010 1020"}, {4, "1 0 1 1000 1 1"}, {4, "1 0 0 0 0 0"}, {4, "1 24 3 0 1010 1020"}, {4, "1 0 3 0 1020 1010"}, {4, "1 0 3 0 1010 2001"},
		{5, "0"}, {5, "100"}, {5, "1 1"}, {5, ""}, {6, "10"}, {7, "10 0"}, {8, "0 1"}, {8, "10000 1"}, {6, "10 2 1"}, {6, "10\u00002"},
	} {
		if y, e := trial.Read(eventOf(x.kind), x.text); y != (api.Event{}) || e != api.ErrEvent {
			t.Error(x, y, e)
		}
	}
	long := strings.Repeat("1 ", 100000) + "1"
	for kind := range 9 {
		for _, text := range []string{long, strings.Repeat(" ", 100000), strings.Repeat("1", 100000)} {
			if y, e := trial.Read(eventOf(kind), text); y != (api.Event{}) || e != api.ErrEvent {
				t.Error(kind, y, e)
			}
		}
	}
}

func TestReadRefusesHeads(t *testing.T) {
	for _, kind := range append(wrongNumbers(0, 8), 9, 10) {
		for _, text := range []string{"", "1", "1 1", "1 1 2 100 200"} {
			if y, e := trial.Read(api.Event{At: entry(0, 1), Kind: kind}, text); y != (api.Event{}) || e != api.ErrEvent {
				t.Error(kind, text, y, e)
			}
		}
	}
	for kind := range 9 {
		x := eventOf(kind)
		text, _ := trial.Write(x)
		var heads []api.Event
		for _, wrong := range wrongEntries() {
			heads = append(heads, with(x, func(x *api.Event) { x.At = wrong }))
		}
		for _, n := range wrongNumbers(0, 100000) {
			heads = append(heads, with(x, func(x *api.Event) { x.Day = n }), with(x, func(x *api.Event) { x.Known = n }))
		}
		for _, of := range []api.Entry{entry(1, 5), entry(1, 6), entry(2, 3), entry(0, 3), entry(-1, -1)} {
			heads = append(heads, with(x, func(x *api.Event) { x.Of = of }))
		}
		if kind == api.EvWithdraw {
			heads = append(heads, with(x, func(x *api.Event) { x.Day = 1 }))
		} else {
			heads = append(heads, with(x, func(x *api.Event) { x.Of = entry(1, 3) }), with(x, func(x *api.Event) { x.Of = entry(0, 1) }))
		}
		for _, head := range heads {
			if y, e := trial.Read(head, text); y != (api.Event{}) || e != api.ErrEvent {
				t.Error(head, text, y, e)
			}
		}
	}
}

// The source of a reading is that of the entry, whatever entry this is.
func TestReadOfAnotherEntry(t *testing.T) {
	x := eventOf(api.EvRead)
	for _, to := range []api.Entry{entry(0, 0), entry(3, 77), entry(5, 9999)} {
		head := with(x, func(x *api.Event) { x.At, x.Day, x.Known = to, 9, 8 })
		want := with(at(to.House, to.No, x), func(x *api.Event) { x.Day, x.Known = 9, 8 })
		if y, e := trial.Read(head, "3 4 3 0 5 6"); y != want || e != api.OK {
			t.Error(to, y, e)
		}
	}
}
