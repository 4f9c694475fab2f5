package bung_test

import (
	"slices"
	"testing"

	"potbank/api"
	"potbank/bung"
	"potbank/probe"
)

// args are all that the functions of the package take, but for what each has as its last argument.
type args struct {
	bung   api.Bung
	wad    api.Range
	list   []api.Saggar
	saggar api.Saggar
	spot   api.Spot
	bungs  []api.Bung
	spots  []api.Spot
}

type call = probe.Call[args]

func noBreak(x api.Break) bool { return isSameBreak(x, api.Break{}) }

func bungCalls() []call {
	errors := []api.Errno{api.ErrBung}
	return []call{
		probe.Of("Check", errors, func(x args) probe.Told { return probe.Error(bung.Check(x.bung)) }),
		probe.Of("Loads", errors, func(x args) probe.Told { return probe.List(bung.Loads(x.bung)) }),
		probe.Of("Courses", errors, func(x args) probe.Told { return probe.List(bung.Courses(x.bung)) }),
		probe.Of("Stands", errors, func(x args) probe.Told { return probe.Value(bung.Stands(x.bung)) }),
		probe.Of("Height", errors, func(x args) probe.Told { return probe.Value(bung.Height(x.bung)) }),
		probe.Of("Lean", errors, func(x args) probe.Told { return probe.Value(bung.Lean(x.bung)) }),
		probe.Of("Fits", []api.Errno{api.ErrBung, api.ErrSpot}, func(x args) probe.Told { return probe.Value(bung.Fits(x.bung, x.spot)) }),
		probe.Of("Breaks", errors, func(x args) probe.Told { return probe.By(noBreak)(bung.Breaks(x.bung)) }),
		probe.Of("CheckBreak", errors, func(x args) probe.Told { return probe.Error(bung.CheckBreak(x.bung, api.Break{Course: -1})) }),
		probe.Of("Swap", errors, func(x args) probe.Told { return probe.By(isNone)(bung.Swap(x.bung, -1)) }),
		probe.Of("Top", []api.Errno{api.ErrBung, api.ErrSaggar}, func(x args) probe.Told { return probe.By(isNone)(bung.Top(x.bung, x.saggar)) }),
		probe.Of("Print", errors, func(x args) probe.Told { return probe.Value(bung.Print(x.bung)) }),
	}
}

func listCalls() []call {
	errors := []api.Errno{api.ErrSaggar}
	yard := []api.Errno{api.ErrWad, api.ErrSaggar, api.ErrSpot}
	return []call{
		probe.Of("CheckList", errors, func(x args) probe.Told { return probe.Error(bung.CheckList(x.list)) }),
		probe.Of("Rule", errors, func(x args) probe.Told { return probe.List(bung.Rule(x.list)) }),
		probe.Of("CanStand", errors, func(x args) probe.Told { return probe.Value(bung.CanStand(x.list)) }),
		probe.Of("Most", errors, func(x args) probe.Told { return probe.List(bung.Most(x.list)) }),
		probe.Of("Set", []api.Errno{api.ErrWad, api.ErrSaggar}, func(x args) probe.Told {
			return probe.By(isNone)(bung.Set(x.wad, x.list, []int{-1}))
		}),
		probe.Of("Fewest", yard, func(x args) probe.Told { return probe.List(bung.Fewest(x.wad, x.list, x.spot)) }),
		probe.Of("CheckBungs", yard, func(x args) probe.Told {
			return probe.Error(bung.CheckBungs(x.wad, x.list, x.spot, [][]int{{-1}}))
		}),
		probe.Of("Seat", []api.Errno{api.ErrBung, api.ErrSpot}, func(x args) probe.Told { return probe.List(bung.Seat(x.bungs, x.spots)) }),
	}
}

// right returns right arguments: more saggars, bungs and spots than are gone through.
func right() args {
	return args{
		bung: of(a(), b(), c()), wad: clay(), list: light(10), saggar: weak(), spot: spot(540, 4),
		bungs: slices.Repeat([]api.Bung{of(a(), b(), c())}, 10), spots: slices.Repeat([]api.Spot{spot(540, 4)}, 10),
	}
}

// spoilt returns right arguments with those made wrong that have one of the errors.
func spoilt(errors []api.Errno) args {
	x := right()
	for _, e := range errors {
		switch e {
		case api.ErrBung:
			x.bung = of(a(), b(), b())
			x.bungs[9] = of()
		case api.ErrWad:
			x.wad.Lo = -1
		case api.ErrSaggar:
			x.list[9].Tilt = -1
			x.saggar.Id = 0
		case api.ErrSpot:
			x.spot.Crown = -1
			x.spots[9].Lean = -1
		}
	}
	return x
}

func allCalls() []call { return slices.Concat(bungCalls(), listCalls()) }

func TestFirstErrorDecides(t *testing.T) {
	for _, name := range probe.OutOfOrder(allCalls(), spoilt) {
		t.Error(name)
	}
}

// checkErrors runs all calls with arguments of which one is wrong.
func checkErrors(t *testing.T, want api.Errno, spoil func(x *args)) {
	t.Helper()
	x := right()
	spoil(&x)
	for _, name := range probe.Missed(allCalls(), want, x) {
		t.Error(name, x)
	}
}

func TestEachWrongArgument(t *testing.T) {
	for i, wrong := range wrongBungs() {
		checkErrors(t, api.ErrBung, func(x *args) { x.bung, x.bungs[i%10] = wrong, wrong })
	}
	for _, wad := range wrongRanges(0, 200) {
		checkErrors(t, api.ErrWad, func(x *args) { x.wad = wad })
	}
	for i, l := range wrongLists() {
		wrong := wrongSaggars()
		checkErrors(t, api.ErrSaggar, func(x *args) { x.list, x.saggar = l, wrong[i%len(wrong)] })
	}
	for i, s := range wrongSpots() {
		checkErrors(t, api.ErrSpot, func(x *args) { x.spot, x.spots[i] = s, s })
	}
}

// Beside a wrong argument, that there are too many is named last.
func TestTooManyComesLast(t *testing.T) {
	for _, c := range allCalls() {
		isSearch := c.Name == "Most" || c.Name == "Fewest" || c.Name == "Seat"
		if told := c.Run(right()); isSearch != (told.Error == api.ErrMany) {
			t.Error(c.Name, told)
		}
	}
}

func TestArgumentsAreNotChanged(t *testing.T) {
	x, y := right(), right()
	// Few enough that they are gone through.
	x.list, y.list = []api.Saggar{c(), b(), a()}, []api.Saggar{c(), b(), a()}
	x.bungs, x.spots = x.bungs[:9], x.spots[:9]
	for _, call := range allCalls() {
		call.Run(x)
		if !isSame(x.bung, y.bung) || !slices.Equal(x.list, y.list) || !slices.EqualFunc(x.bungs, y.bungs[:9], isSame) || !slices.Equal(x.spots, y.spots[:9]) {
			t.Fatal(call.Name, x)
		}
	}
}
