package desk_test

import (
	"fmt"
	"slices"
	"strings"
	"testing"

	"potbank/api"
	"potbank/desk"
)

// saying is a line, and the answer that is due.
type saying struct{ line, answer string }

// check does lines, one after the other, and compares their answers.
func check(t *testing.T, d *desk.Desk, l ...saying) {
	t.Helper()
	for _, x := range l {
		if got := say(d, x.line); got != x.answer {
			t.Errorf("%s: %q, not %q", x.line, got, x.answer)
		}
	}
}

// many does a line for each of the numbers 1 to n, and compares all answers.
func many(t *testing.T, d *desk.Desk, n int, line func(i int) string, answer string) {
	t.Helper()
	for i := range n {
		check(t, d, saying{line(i + 1), answer})
	}
}

func TestShapesAndBodies(t *testing.T) {
	d := desk.New()
	check(t, d,
		saying{"shape 7 100 102 103 104 50 51 10 200 210 1000", "ok"}, saying{"shape 2 1 2 3 4 5 6 0 7 8 9", "ok"}, saying{"shape 9 1 2 3 4 5 6 0 7 8 9", "ok"},
		saying{"shape 7 1 2 3 4 5 6 1 7 8 10", "ok"}, saying{"shape 0 1 2 3 4 5 6 0 7 8 9", "error 10"}, saying{"shape 7 2 1 3 4 5 6 0 7 8 9", "error 10"}, saying{"shape 7 -1 1 3 4 5 6 0 7 8 9", "error 10"},
		saying{"body 3 100 120 50 60 1000 1100", "ok"}, saying{"body 1 1 2 3 4 5 6", "ok"}, saying{"body 3 11 12 13 14 15 16", "ok"},
		saying{"body 1000 1 2 3 4 5 6", "error 11"}, saying{"body 1 2 1 3 4 5 6", "error 11"},
	)
	shapes := []api.Shape{
		{Id: 2, Wide: span(1, 2), Deep: span(3, 4), High: span(5, 6), Weight: span(7, 8), Bears: 9},
		{Id: 7, Wide: span(1, 2), Deep: span(3, 4), High: span(5, 6), Nest: 1, Weight: span(7, 8), Bears: 10},
		{Id: 9, Wide: span(1, 2), Deep: span(3, 4), High: span(5, 6), Weight: span(7, 8), Bears: 9},
	}
	bodies := []api.Body{{Id: 1, Shrink: span(1, 2), Loss: span(3, 4), Heat: span(5, 6)}, {Id: 3, Shrink: span(11, 12), Loss: span(13, 14), Heat: span(15, 16)}}
	if w := d.Setting().Wares; !slices.Equal(w.Shapes, shapes) || !slices.Equal(w.Bodies, bodies) {
		t.Error(w)
	}
	if w := d.Shop(4).Wares; !slices.Equal(w.Shapes, shapes) || !slices.Equal(w.Bodies, bodies) {
		t.Error(w)
	}
}

func TestLimitsOfWares(t *testing.T) {
	d := desk.New()
	many(t, d, 40, func(i int) string { return fmt.Sprint("shape ", 2*i, " 1 2 3 4 5 6 0 7 8 9") }, "ok")
	many(t, d, 12, func(i int) string { return fmt.Sprint("body ", 2*i, " 1 2 3 4 5 6") }, "ok")
	was := stateOf(d)
	check(t, d,
		saying{"shape 41 1 2 3 4 5 6 0 7 8 9", "error 2"}, saying{"shape 1 1 2 3 4 5 6 0 7 8 9", "error 2"}, saying{"shape 999 1 2 3 4 5 6 0 7 8 9", "error 2"},
		saying{"shape 1 2 1 3 4 5 6 0 7 8 9", "error 10"}, saying{"shape 40 1 2 3 4 5 6 0 7 8 9", "ok"}, saying{"shape 2 1 2 3 4 5 6 0 7 8 9", "ok"},
		saying{"body 25 1 2 3 4 5 6", "error 2"}, saying{"body 1 1 2 3 4 5 6", "error 2"}, saying{"body 1 2 1 3 4 5 6", "error 11"}, saying{"body 24 1 2 3 4 5 6", "ok"},
	)
	if !isSameState(stateOf(d), was) {
		t.Error("something has changed")
	}
}

func TestBoxAndLists(t *testing.T) {
	d := desk.New()
	check(t, d,
		saying{"box 1 3 2 110 100 3000", "ok"}, saying{"box 2 7 2 110 100 3000", "error 20"}, saying{"box 0 3 2 110 100 3000", "error 20"},
		saying{"item 7 2 4", "ok"}, saying{"item -1 -2 -3", "ok"},
		saying{"saggar 1 100 120 300 350 200 210 5", "ok"}, saying{"saggar 1 -1 -2 -3 -4 -5 -6 -7", "ok"},
		saying{"wad 5 10", "ok"}, saying{"wad 9 -1", "ok"}, saying{"spot 540 4", "ok"}, saying{"spot -8 -9", "ok"},
		saying{"order 1 8 990 1060 3", "ok"}, saying{"order 1 8 7 6 5", "ok"}, saying{"seat 1000 1050 5 10", "ok"}, saying{"seat -1 -2 -3 -4", "ok"},
	)
	want := api.Setting{
		Box:   api.Box{Id: 1, Wide: 3, Deep: 2, Cell: 110, High: 100, Bears: 3000},
		Items: []api.Item{{Shape: 7, Many: 2, Clear: 4}, {Shape: -1, Many: -2, Clear: -3}},
		Wad:   span(9, -1), Spot: api.Spot{Crown: -8, Lean: -9},
		Saggars: []api.Saggar{{Id: 1, Weight: span(100, 120), Bears: span(300, 350), High: span(200, 210), Tilt: 5}, {Id: 1, Weight: span(-1, -2), Bears: span(-3, -4), High: span(-5, -6), Tilt: -7}},
		Orders:  []api.Order{{Id: 1, Many: 8, Heat: span(990, 1060), Class: 3}, {Id: 1, Many: 8, Heat: span(7, 6), Class: 5}},
		Seats:   []api.Seat{{Heat: span(1000, 1050), Class: 5, Holds: 10}, {Heat: span(-1, -2), Class: -3, Holds: -4}},
		Store:   api.Store{Accounts: 2},
	}
	if s := d.Setting(); !isSameSetting(s, want) {
		t.Error(s)
	}
	check(t, d, saying{"body 1 1 2 3 4 5 6", "ok"}, saying{"clear", "ok"}, saying{"clear", "ok"})
	want.Wares.Bodies = []api.Body{{Id: 1, Shrink: span(1, 2), Loss: span(3, 4), Heat: span(5, 6)}}
	want.Items, want.Saggars, want.Orders, want.Seats = nil, nil, nil, nil
	if s := d.Setting(); !isSameSetting(s, want) {
		t.Error(s)
	}
}

func TestLimitsOfLists(t *testing.T) {
	for line, most := range map[string]int{"item 7 2 4": 5, "saggar 1 1 2 3 4 5 6 7": 30, "order 1 2 3 4 5": 8, "seat 1 2 3 4": 24} {
		d := desk.New()
		for range 2 {
			many(t, d, most, func(int) string { return line }, "ok")
			was := stateOf(d)
			many(t, d, 2, func(int) string { return line }, "error 2")
			if !isSameState(stateOf(d), was) {
				t.Error(line)
			}
			check(t, d, saying{"clear", "ok"})
		}
	}
}

func TestClay(t *testing.T) {
	d := desk.New()
	check(t, d,
		saying{"move 1 1 0 1 100 110", "ok"}, saying{"move 1 1 0 2 100 110", "error 70"}, saying{"accounts 3", "ok"}, saying{"move 1 1 0 2 100 110", "ok"},
		saying{"count 4 2 1 20 25", "ok"}, saying{"count 4 2 3 20 25", "error 71"}, saying{"count 4 2 0 20 25", "error 71"}, saying{"move 0 1 0 2 100 110", "error 70"},
		saying{"accounts 1", "error 77"}, saying{"accounts 8", "error 77"}, saying{"accounts -1", "error 77"},
	)
	want := api.Store{Accounts: 3, Moves: []api.Move{{Source: 1, Day: 1, To: 2, Weight: span(100, 110)}}, Counts: []api.Count{{Source: 4, Day: 2, Account: 1, Weight: span(20, 25)}}}
	if s := d.Setting(); !isSameSetting(s, api.Setting{Store: want}) {
		t.Error(s)
	}
	check(t, d, saying{"accounts 7", "ok"}, saying{"move 99999 100000 6 5 0 1000000000", "ok"})
	want = api.Store{Accounts: 7, Moves: []api.Move{{Source: 99999, Day: 100000, From: 6, To: 5, Weight: span(0, 1000000000)}}}
	if s := d.Setting(); !isSameSetting(s, api.Setting{Store: want}) {
		t.Error(s)
	}
	check(t, d, saying{"accounts 2", "ok"})
	many(t, d, 40, func(int) string { return "move 1 1 0 1 0 9" }, "ok")
	check(t, d, saying{"move 1 1 0 1 0 9", "error 2"}, saying{"move 1 1 0 0 0 9", "error 70"})
	many(t, d, 20, func(int) string { return "count 1 1 1 0 9" }, "ok")
	check(t, d, saying{"count 1 1 1 0 9", "error 2"})
	check(t, d, saying{"accounts 2", "ok"})
	many(t, d, 8, func(i int) string { return fmt.Sprint("count 1 ", i, " 1 0 9") }, "ok")
	check(t, d, saying{"count 1 9 1 0 9", "error 2"}, saying{"move 1 9 1 0 0 9", "error 2"}, saying{"move 1 8 1 0 0 9", "ok"})
}

func TestCustoms(t *testing.T) {
	d := desk.New()
	check(t, d,
		saying{"custom 2 5 1 2 10 20 30 40 50 60", "ok"}, saying{"custom 1 9 3 1 0 100 200 300 400 500", "ok"}, saying{"custom 2 4 2 3 1 2 3 4 5 6", "ok"},
		saying{"custom 2 5 3 1 11 21 31 41 51 61", "ok"}, saying{"custom 1 0 1 1 0 0 0 0 0 0", "ok"}, saying{"custom 10 5 1 2 10 20 30 40 50 60", "error 80"}, saying{"custom 2 5 1 4 10 20 30 40 50 60", "error 80"},
	)
	want := []api.Custom{
		{Trade: 1, From: 0, Basis: 1, Bears: 1},
		{Trade: 1, From: 9, Basis: 3, Bears: 1, Rates: [5]int{0, 100, 200, 300, 400}, Second: 500},
		{Trade: 2, From: 4, Basis: 2, Bears: 3, Rates: [5]int{1, 2, 3, 4, 5}, Second: 6},
		{Trade: 2, From: 5, Basis: 3, Bears: 1, Rates: [5]int{11, 21, 31, 41, 51}, Second: 61},
	}
	if l := d.Setting().Customs; !slices.Equal(l, want) || !slices.Equal(d.Shop(5).Customs, want) {
		t.Error(l)
	}
	many(t, d, 8, func(i int) string { return fmt.Sprint("custom 3 ", 10*i, " 1 1 0 0 0 0 0 0") }, "ok")
	was := stateOf(d)
	check(t, d,
		saying{"custom 3 11 1 1 0 0 0 0 0 0", "error 2"}, saying{"custom 1 10 1 1 0 0 0 0 0 0", "error 2"}, saying{"custom 9 0 1 1 0 0 0 0 0 0", "error 2"},
		saying{"custom 9 0 1 4 0 0 0 0 0 0", "error 80"}, saying{"custom 3 80 1 1 0 0 0 0 0 0", "ok"}, saying{"custom 1 0 1 1 0 0 0 0 0 0", "ok"},
	)
	if !isSameState(stateOf(d), was) {
		t.Error("something has changed")
	}
}

// Each number of a line that sets up something has its own place.
func TestEachNumberHasItsPlace(t *testing.T) {
	for line, want := range map[string]string{
		"shape 1 2 3 4 5 6 7 6 9 10 11":    "{Id:1 Wide:{Lo:2 Hi:3} Deep:{Lo:4 Hi:5} High:{Lo:6 Hi:7} Nest:6 Weight:{Lo:9 Hi:10} Bears:11}",
		"body 1 2 3 4 5 6 7":               "{Id:1 Shrink:{Lo:2 Hi:3} Loss:{Lo:4 Hi:5} Heat:{Lo:6 Hi:7}}",
		"box 1 2 3 4 5 6":                  "{Id:1 Wide:2 Deep:3 Cell:4 High:5 Bears:6}",
		"item 1 2 3":                       "{Shape:1 Many:2 Clear:3}",
		"saggar 1 2 3 4 5 6 7 8":           "{Id:1 Weight:{Lo:2 Hi:3} Bears:{Lo:4 Hi:5} High:{Lo:6 Hi:7} Tilt:8}",
		"wad 1 2":                          "Wad:{Lo:1 Hi:2}",
		"spot 1 2":                         "Spot:{Crown:1 Lean:2}",
		"order 1 2 3 4 5":                  "{Id:1 Many:2 Heat:{Lo:3 Hi:4} Class:5}",
		"seat 1 2 3 4":                     "{Heat:{Lo:1 Hi:2} Class:3 Holds:4}",
		"move 3 2 1 0 4 5":                 "{Source:3 Day:2 From:1 To:0 Weight:{Lo:4 Hi:5}}",
		"count 3 2 1 4 5":                  "{Source:3 Day:2 Account:1 Weight:{Lo:4 Hi:5}}",
		"custom 4 7 2 3 11 12 13 14 15 16": "{Trade:4 From:7 Basis:2 Bears:3 Rates:[11 12 13 14 15] Second:16}",
	} {
		d := desk.New()
		check(t, d, saying{line, "ok"})
		if text := fmt.Sprintf("%+v", d.Setting()); !strings.Contains(text, want) {
			t.Error(line, text)
		}
	}
}
