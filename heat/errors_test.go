package heat_test

import (
	"slices"
	"testing"

	"potbank/api"
	"potbank/heat"
	"potbank/probe"
)

// args are all that the functions of the package take.
type args struct {
	kiln    api.Kiln
	reading api.Reading
	firing  api.Firing
	source  int
	field   api.Field
	place   int
	proof   api.HeatProof
	by      []int
	want    api.Range
	wants   []api.Want
}

type call = probe.Call[args]

func firingCalls() []call {
	firing := []api.Errno{api.ErrFiring}
	field := []api.Errno{api.ErrFiring, api.ErrField}
	return []call{
		probe.Of("CheckKiln", []api.Errno{api.ErrKiln}, func(x args) probe.Told { return probe.Error(heat.CheckKiln(x.kiln)) }),
		probe.Of("CheckReading", []api.Errno{api.ErrKiln, api.ErrReading}, func(x args) probe.Told {
			return probe.Error(heat.CheckReading(x.kiln, x.reading))
		}),
		probe.Of("Check", nil, func(x args) probe.Told { return probe.Error(heat.Check(x.firing)) }),
		probe.Of("With", []api.Errno{api.ErrFiring, api.ErrReading}, func(x args) probe.Told {
			return probe.By(isNone)(heat.With(x.firing, x.reading))
		}),
		probe.Of("Sources", firing, func(x args) probe.Told { return probe.List(heat.Sources(x.firing)) }),
		probe.Of("Without", []api.Errno{api.ErrFiring, api.ErrNone}, func(x args) probe.Told {
			return probe.By(isNone)(heat.Without(x.firing, x.source))
		}),
		probe.Of("Heats", []api.Errno{api.ErrKiln, api.ErrField}, func(x args) probe.Told { return probe.List(heat.Heats(x.kiln, x.field)) }),
		probe.Of("CheckField", field, func(x args) probe.Told { return probe.Error(heat.CheckField(x.firing, x.field)) }),
		probe.Of("Sound", firing, func(x args) probe.Told { return probe.Value(heat.Sound(x.firing)) }),
		probe.Of("Hottest", []api.Errno{api.ErrFiring, api.ErrFalse}, func(x args) probe.Told { return probe.List(heat.Hottest(x.firing)) }),
		probe.Of("Conflict", firing, func(x args) probe.Told { return probe.List(heat.Conflict(x.firing)) }),
		probe.Of("CheckConflict", []api.Errno{api.ErrFiring, api.ErrConflict}, func(x args) probe.Told {
			return probe.Error(heat.CheckConflict(x.firing, x.by))
		}),
		probe.Of("Rests", []api.Errno{api.ErrFiring, api.ErrProof}, func(x args) probe.Told { return probe.List(heat.Rests(x.firing, x.proof)) }),
	}
}

func placeCalls() []call {
	place := []api.Errno{api.ErrFiring, api.ErrPlace, api.ErrFalse}
	wants := []api.Errno{api.ErrFiring, api.ErrWant, api.ErrFalse}
	return []call{
		probe.Of("Bound", place, func(x args) probe.Told { return probe.Value(heat.Bound(x.firing, x.place)) }),
		probe.Of("Attain", place, func(x args) probe.Told { return probe.By(isNoField)(heat.Attain(x.firing, x.place, true)) }),
		probe.Of("Prove", place, func(x args) probe.Told { return probe.By(isNoProof)(heat.Prove(x.firing, x.place, true)) }),
		probe.Of("Prove low", place, func(x args) probe.Told { return probe.By(isNoProof)(heat.Prove(x.firing, x.place, false)) }),
		probe.Of("CheckProof", []api.Errno{api.ErrFiring, api.ErrPlace, api.ErrProof}, func(x args) probe.Told {
			return probe.Error(heat.CheckProof(x.firing, x.place, true, 1000, x.proof))
		}),
		probe.Of("Moves", place, func(x args) probe.Told { return probe.List(heat.Moves(x.firing, x.place)) }),
		probe.Of("Verdict", []api.Errno{api.ErrFiring, api.ErrPlace, api.ErrWant, api.ErrFalse}, func(x args) probe.Told {
			return probe.Value(heat.Verdict(x.firing, x.place, x.want))
		}),
		probe.Of("Together", wants, func(x args) probe.Told { return probe.Value(heat.Together(x.firing, x.wants)) }),
		probe.Of("Show", wants, func(x args) probe.Told { return probe.By(isNoField)(heat.Show(x.firing, x.wants)) }),
	}
}

func allCalls() []call { return slices.Concat(firingCalls(), placeCalls()) }

func right() args {
	return args{
		kiln: kilnK(), reading: bent(9, 1, 700), firing: firingF(), source: 2, field: fieldX(), place: 1, proof: proof(-1, 1, 2),
		by: []int{1, 4}, want: span(900, 950), wants: []api.Want{want(1, 700, 700), want(2, 900, 900)},
	}
}

// spoilt returns right arguments with those made wrong that have one of the errors.
func spoilt(errors []api.Errno) args {
	x := right()
	// A firing that is not valid has no other error, so this one comes last.
	for _, e := range slices.Backward(errors) {
		switch e {
		case api.ErrKiln:
			x.kiln.Falls[1][2].Lo = -1
		case api.ErrReading:
			x.reading.Place = 3
		case api.ErrNone:
			x.source = 9
		case api.ErrField:
			x.field.Falls[1][2] = 99
		case api.ErrPlace:
			x.place = 3
		case api.ErrProof:
			x.proof.By[1] = 3
		case api.ErrConflict:
			x.by = []int{1, 5}
		case api.ErrWant:
			x.want.Hi, x.wants[1].Heat.Hi = 3001, 3001
		case api.ErrFalse:
			x.firing = falseF()
		case api.ErrFiring:
			x.firing.Readings[2].Mark = 0
		}
	}
	return x
}

func TestFirstErrorDecides(t *testing.T) {
	for _, name := range probe.OutOfOrder(allCalls(), spoilt) {
		t.Error(name)
	}
}

// checkErrors runs all calls with arguments of which one is wrong.
func checkErrors(t *testing.T, want api.Errno, spoil func(x *args)) {
	t.Helper()
	x := right()
	spoil(&x)
	for _, name := range probe.Missed(allCalls(), want, x) {
		t.Error(name, x)
	}
}

func wrongWants() []api.Want {
	var l []api.Want
	for _, n := range wrongNumbers(0, 2) {
		l = append(l, want(n, 1, 2))
	}
	for _, r := range wrongRanges(-3000, 3000) {
		l = append(l, want(0, r.Lo, r.Hi))
	}
	return l
}

func TestEachWrongArgument(t *testing.T) {
	for _, k := range wrongKilns() {
		checkErrors(t, api.ErrKiln, func(x *args) { x.kiln = k })
	}
	for _, f := range wrongFirings() {
		checkErrors(t, api.ErrFiring, func(x *args) { x.firing = f })
	}
	for _, place := range wrongNumbers(0, 2) {
		checkErrors(t, api.ErrPlace, func(x *args) { x.place = place })
	}
	for _, r := range wrongRanges(-3000, 3000) {
		checkErrors(t, api.ErrWant, func(x *args) { x.want, x.wants = r, []api.Want{want(1, r.Lo, r.Hi)} })
	}
	for _, w := range wrongWants() {
		for _, l := range [][]api.Want{{w}, {w, want(1, 700, 1000)}, {want(1, 0, 1), w}} {
			checkErrors(t, api.ErrWant, func(x *args) { x.want, x.wants = span(5, 4), l })
		}
	}
	checkErrors(t, api.ErrWant, func(x *args) {
		x.want, x.wants = span(5, 4), slices.Repeat([]api.Want{want(1, 700, 1000)}, 25)
	})
	checkErrors(t, api.ErrFalse, func(x *args) { x.firing = falseF() })
}

// Only some functions ask for a sound firing.
func TestWhatNeedNotBeSound(t *testing.T) {
	asked := []string{"Hottest", "Bound", "Attain", "Prove", "Prove low", "Moves", "Verdict", "Together", "Show"}
	for _, c := range allCalls() {
		x := right()
		x.firing = falseF()
		if told := c.Run(x); (told.Error == api.ErrFalse) != slices.Contains(asked, c.Name) {
			t.Error(c.Name, told)
		}
	}
}

func isSameArgs(x, y args) bool {
	return isSameKiln(x.kiln, y.kiln) && isSame(x.firing, y.firing) && isSameField(x.field, y.field) &&
		slices.Equal(x.proof.By, y.proof.By) && slices.Equal(x.by, y.by) && slices.Equal(x.wants, y.wants)
}

func TestArgumentsAreNotChanged(t *testing.T) {
	for _, f := range []api.Firing{firingF(), falseF(), firingF(ring(3, 1, 700, 800), bent(2, 1, 5), bent(1, 2, 5))} {
		x, y := right(), right()
		x.firing = f
		y.firing = firing(kilnK(), slices.Clone(f.Readings)...)
		for _, call := range allCalls() {
			call.Run(x)
			if !isSameArgs(x, y) {
				t.Fatal(call.Name, x)
			}
		}
	}
}
