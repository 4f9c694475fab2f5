package trial_test

import (
	"slices"
	"testing"

	"potbank/api"
	"potbank/probe"
	"potbank/trial"
)

// args are all that the functions of the package take.
type args struct {
	wares         api.Wares
	events, more  []api.Event
	event         api.Event
	at            api.Entry
	firing, place int
	piece         int
	known, later  int
}

type call = probe.Call[args]

func listCalls() []call {
	days := []api.Errno{api.ErrEvents, api.ErrDay}
	return []call{
		probe.Of("CheckEvent", []api.Errno{api.ErrEvent}, func(x args) probe.Told { return probe.Error(trial.CheckEvent(x.event)) }),
		probe.Of("Check", []api.Errno{api.ErrEvents}, func(x args) probe.Told { return probe.Error(trial.Check(x.events)) }),
		probe.Of("Add", []api.Errno{api.ErrEvents, api.ErrEvent, api.ErrSame}, func(x args) probe.Told { return probe.List(trial.Add(x.events, x.event)) }),
		probe.Of("Join", []api.Errno{api.ErrEvents, api.ErrSame, api.ErrLong}, func(x args) probe.Told { return probe.List(trial.Join(x.events, x.more)) }),
		probe.Of("Join of the others", []api.Errno{api.ErrEvents, api.ErrSame, api.ErrLong}, func(x args) probe.Told { return probe.List(trial.Join(x.more, x.events)) }),
		probe.Of("Without", []api.Errno{api.ErrEvents, api.ErrNone}, func(x args) probe.Told { return probe.List(trial.Without(x.events, x.at)) }),
		probe.Of("Write", []api.Errno{api.ErrEvent}, func(x args) probe.Told { return probe.Value(trial.Write(x.event)) }),
		probe.Of("Read", []api.Errno{api.ErrEvent}, func(x args) probe.Told { return probe.Value(trial.Read(x.event, "1 0 3 0 1012 1014")) }),
		probe.Of("Standing", days, func(x args) probe.Told { return probe.List(trial.Standing(x.events, x.known)) }),
		probe.Of("Void", days, func(x args) probe.Told { return probe.List(trial.Void(x.events, x.known)) }),
		probe.Of("Dates", []api.Errno{api.ErrEvents}, func(x args) probe.Told { return probe.List(trial.Dates(x.events)) }),
		probe.Of("Firings", days, func(x args) probe.Told { return probe.List(trial.Firings(x.events, x.known)) }),
	}
}

func knownCalls() []call {
	batch := []api.Errno{api.ErrEvents, api.ErrArg, api.ErrDay, api.ErrBatch}
	heat := append(slices.Clone(batch), api.ErrPlace, api.ErrFalse)
	return []call{
		probe.Of("Batch", batch, func(x args) probe.Told { return probe.By(isNoBatch)(trial.Batch(x.events, x.firing, x.known)) }),
		probe.Of("Heat", heat, func(x args) probe.Told { return probe.Value(trial.Heat(x.events, x.firing, x.place, x.known)) }),
		probe.Of("Piece", batch[:3], func(x args) probe.Told { return probe.Value(trial.Piece(x.events, x.piece, x.known)) }),
		probe.Of("Pieces", batch, func(x args) probe.Told { return probe.List(trial.Pieces(x.events, x.firing, x.known)) }),
	}
}

func judgedCalls() []call {
	piece := []api.Errno{api.ErrWares, api.ErrEvents, api.ErrArg, api.ErrDay, api.ErrPiece, api.ErrNone, api.ErrFalse}
	firing := []api.Errno{api.ErrWares, api.ErrEvents, api.ErrArg, api.ErrDay, api.ErrBatch, api.ErrNone, api.ErrFalse}
	days := []api.Errno{api.ErrWares, api.ErrEvents, api.ErrDay}
	return []call{
		probe.Of("Verdict", piece, func(x args) probe.Told { return probe.Value(trial.Verdict(x.wares, x.events, x.piece, x.known)) }),
		probe.Of("Rests", piece, func(x args) probe.Told { return probe.List(trial.Rests(x.wares, x.events, x.piece, x.known)) }),
		probe.Of("Verdicts", firing, func(x args) probe.Told { return probe.List(trial.Verdicts(x.wares, x.events, x.firing, x.known)) }),
		probe.Of("Together", firing, func(x args) probe.Told { return probe.Value(trial.Together(x.wares, x.events, x.firing, x.known)) }),
		probe.Of("Changed", days, func(x args) probe.Told { return probe.List(trial.Changed(x.wares, x.events, x.known, x.later)) }),
		probe.Of("Changed back", days, func(x args) probe.Told { return probe.List(trial.Changed(x.wares, x.events, x.later, x.known)) }),
		probe.Of("Recalls", days, func(x args) probe.Told { return probe.List(trial.Recalls(x.wares, x.events, x.known, x.later)) }),
		probe.Of("Recalls back", days, func(x args) probe.Told { return probe.List(trial.Recalls(x.wares, x.events, x.later, x.known)) }),
		probe.Of("Moved", append(slices.Clone(days), api.ErrNone), func(x args) probe.Told { return probe.List(trial.Moved(x.wares, x.events, x.at, x.known)) }),
	}
}

func allCalls() []call { return slices.Concat(listCalls(), knownCalls(), judgedCalls()) }

func right() args {
	return args{
		wares: wares(), events: history()[:6], more: history()[3:], event: at(0, 9, ring(3, 3, 1, 0, 1012, 1014)), at: entry(0, 2),
		firing: 1, place: 1, piece: 10, known: 10, later: 12,
	}
}

// spoilt returns right arguments with those made wrong that have one of the errors.
func spoilt(errors []api.Errno) args {
	x := right()
	// What is not valid has no other error, so that the errors that come first are made last.
	for _, e := range slices.Backward(errors) {
		switch e {
		case api.ErrLong:
			x.more = append(x.more, many(1, 55)...)
		case api.ErrSame:
			x.event, x.more[0] = at(0, 3, ring(3, 3, 1, 0, 1012, 1014)), at(0, 3, drawn(5, 4, 1))
		case api.ErrFalse:
			x.events[3] = at(0, 3, ring(3, 3, 1, 1, 500, 600))
		case api.ErrNone:
			x.at = entry(0, 6)
			x.wares.Bodies = x.wares.Bodies[1:]
		case api.ErrPlace:
			x.place = 2
		case api.ErrPiece:
			x.piece = 13
		case api.ErrBatch:
			x.firing = 2
		case api.ErrDay:
			x.known = -1
		case api.ErrArg:
			x.firing, x.piece = 0, 10000
		case api.ErrEvent:
			x.event.Day = -1
		case api.ErrEvents:
			x.events[1].Many = 0
		case api.ErrWares:
			x.wares.Bodies[0].Id = 0
		}
	}
	return x
}

func TestFirstErrorDecides(t *testing.T) {
	for _, name := range probe.OutOfOrder(allCalls(), spoilt) {
		t.Error(name)
	}
	for _, c := range allCalls() {
		if told := c.Run(right()); told.Error != api.OK {
			t.Error(c.Name, told)
		}
	}
}

// checkErrors runs all calls with arguments of which one is wrong.
func checkErrors(t *testing.T, want api.Errno, spoil func(x *args)) {
	t.Helper()
	x := right()
	spoil(&x)
	for _, name := range probe.Missed(allCalls(), want, x) {
		t.Error(name, x)
	}
}

func wrongWares() []api.Wares {
	twice := wares()
	twice.Bodies[2].Id = 2
	l := []api.Wares{twice, {Shapes: []api.Shape{{}}, Bodies: wares().Bodies}, {Bodies: make([]api.Body, 13)}}
	for _, n := range wrongNumbers(1, 999) {
		w := wares()
		w.Bodies[0].Id = n
		l = append(l, w)
	}
	return l
}

func TestEachWrongArgument(t *testing.T) {
	for _, w := range wrongWares() {
		checkErrors(t, api.ErrWares, func(x *args) { x.wares = w })
	}
	for _, l := range wrongLists() {
		checkErrors(t, api.ErrEvents, func(x *args) { x.events = l })
	}
	for _, n := range wrongNumbers(1, 99) {
		checkErrors(t, api.ErrArg, func(x *args) { x.firing, x.piece = n, 0 })
	}
	for _, n := range wrongNumbers(1, 9999) {
		checkErrors(t, api.ErrArg, func(x *args) { x.firing, x.piece = 0, n })
	}
	for _, n := range wrongNumbers(0, 100000) {
		checkErrors(t, api.ErrDay, func(x *args) { x.known = n })
	}
	for _, n := range []int{2, 50, 99} {
		checkErrors(t, api.ErrBatch, func(x *args) { x.firing = n })
	}
	for _, n := range []int{1, 9, 13, 9999} {
		checkErrors(t, api.ErrPiece, func(x *args) { x.piece = n })
	}
	for _, n := range wrongNumbers(0, 1) {
		checkErrors(t, api.ErrPlace, func(x *args) { x.place = n })
	}
	checkErrors(t, api.ErrFalse, func(x *args) { x.events = append(history()[:6], at(0, 7, ring(1, 1, 1, 1, 1300, 1400))) })
	checkErrors(t, api.ErrNone, func(x *args) { x.wares.Bodies, x.at = nil, entry(1, 2) })
}

// The limits of what is asked are no errors by themselves.
func TestLimitsOfArguments(t *testing.T) {
	for _, known := range []int{0, 100000} {
		for _, piece := range []int{1, 9999} {
			if p, e := trial.Piece(history(), piece, known); p != (api.Piece{No: piece, Broken: -1, Drawn: -1, Sold: -1}) || e != api.OK {
				t.Error(piece, known, p, e)
			}
			if _, e := trial.Verdict(wares(), history(), piece, known); e != api.ErrPiece {
				t.Error(piece, known, e)
			}
		}
		for _, firing := range []int{2, 99} {
			if _, e := trial.Batch(history(), firing, known); e != api.ErrBatch {
				t.Error(firing, known, e)
			}
		}
	}
}

// Wares without bodies, and no events, are valid.
func TestNothingIsKnown(t *testing.T) {
	none := args{firing: 1, piece: 1, at: entry(0, 0), event: eventOf(api.EvSet)}
	for _, c := range allCalls() {
		told := c.Run(none)
		want := api.OK
		switch c.Name {
		case "Without", "Moved":
			want = api.ErrNone
		case "Batch", "Heat", "Pieces", "Verdicts", "Together":
			want = api.ErrBatch
		case "Verdict", "Rests":
			want = api.ErrPiece
		case "Read":
			want = api.ErrEvent // of another kind
		}
		if told.Error != want {
			t.Error(c.Name, told)
		}
	}
}

func TestArgumentsAreNotChanged(t *testing.T) {
	for _, l := range [][]api.Event{history(), recalled(), slices.Concat(many(0, 3), []api.Event{at(0, 7, kiln(0, 0, 1, 1, 1, 0, 0)), at(1, 1, withdraw(3, 0))})} {
		x, y := right(), right()
		x.events, y.events = slices.Clone(l), slices.Clone(l)
		for _, c := range allCalls() {
			c.Run(x)
			if !slices.Equal(x.events, y.events) || !slices.Equal(x.more, y.more) || !slices.Equal(x.wares.Bodies, y.wares.Bodies) {
				t.Fatal(c.Name, x)
			}
		}
	}
}

// Whatever the numbers are, nothing panics.
func TestStrangeArguments(t *testing.T) {
	for _, n := range append(wrongNumbers(0, 100000), 0, 1) {
		for _, m := range append(wrongNumbers(1, 99), 1) {
			x := args{wares: wares(), events: history(), at: entry(n, m), firing: m, place: n, piece: m, known: n, later: m}
			x.event = api.Event{At: x.at, Kind: m, Day: n, Known: m, Firing: n, Mouth: n, Place: n, Body: n, First: n, Many: m, Fall: span(n, m), Of: entry(m, n)}
			x.more = []api.Event{x.event, x.event}
			for _, c := range allCalls() {
				c.Run(x)
			}
			x.events = x.more
			for _, c := range allCalls() {
				c.Run(x)
			}
		}
	}
}
