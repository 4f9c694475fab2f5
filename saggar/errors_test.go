package saggar_test

import (
	"slices"
	"testing"

	"potbank/api"
	"potbank/probe"
	"potbank/saggar"
)

// args are all that the functions of the package take, but for what each has as its last argument.
type args struct {
	w api.Wares
	s api.Box
	l []api.Item
	p []api.Stand
	x api.Item
}

type call = probe.Call[args]

func itemCalls() []call {
	errors := []api.Errno{api.ErrWares, api.ErrBox, api.ErrItem}
	return []call{
		probe.Of("CheckItem", []api.Errno{api.ErrWares, api.ErrItem}, func(a args) probe.Told { return probe.Error(saggar.CheckItem(a.w, a.x)) }),
		probe.Of("Foot", errors, func(a args) probe.Told { return probe.Value(saggar.Foot(a.w, a.s, a.x)) }),
		probe.Of("Stands", errors, func(a args) probe.Told { return probe.List(saggar.Stands(a.w, a.s, a.x)) }),
		probe.Of("Most", errors, func(a args) probe.Told { return probe.Value(saggar.Most(a.w, a.s, a.x)) }),
	}
}

func listCalls() []call {
	errors := []api.Errno{api.ErrWares, api.ErrBox, api.ErrItems}
	return []call{
		probe.Of("Feet", errors, func(a args) probe.Told { return probe.List(saggar.Feet(a.w, a.s, a.l)) }),
		probe.Of("Pack", errors, func(a args) probe.Told { return probe.List(saggar.Pack(a.w, a.s, a.l)) }),
		probe.Of("Packs", errors, func(a args) probe.Told { return probe.Value(saggar.Packs(a.w, a.s, a.l)) }),
		probe.Of("Nth", errors, func(a args) probe.Told { return probe.List(saggar.Nth(a.w, a.s, a.l, -1)) }),
		probe.Of("Refuse", errors, func(a args) probe.Told {
			r, e := saggar.Refuse(a.w, a.s, a.l)
			return probe.Told{Zero: r.Kind == 0 && len(r.Items) == 0, Error: e}
		}),
		probe.Of("CheckRefusal", errors, func(a args) probe.Told {
			return probe.Error(saggar.CheckRefusal(a.w, a.s, a.l, api.Refusal{Kind: 9, Items: []int{-1}}))
		}),
		probe.Of("Groups", errors, func(a args) probe.Told { return probe.List(saggar.Groups(a.w, a.s, a.l)) }),
		probe.Of("CheckGroups", errors, func(a args) probe.Told {
			return probe.Error(saggar.CheckGroups(a.w, a.s, a.l, [][]int{{-1}}))
		}),
	}
}

func packCalls() []call {
	errors := []api.Errno{api.ErrWares, api.ErrBox, api.ErrItems, api.ErrPack}
	return []call{
		probe.Of("CheckPack", errors, func(a args) probe.Told { return probe.Error(saggar.CheckPack(a.w, a.s, a.l, a.p)) }),
		probe.Of("Grid", errors, func(a args) probe.Told { return probe.List(saggar.Grid(a.w, a.s, a.l, a.p)) }),
		probe.Of("Free", errors, func(a args) probe.Told { return probe.Value(saggar.Free(a.w, a.s, a.l, a.p)) }),
		probe.Of("Add", append(errors, api.ErrItem), func(a args) probe.Told { return probe.Value(saggar.Add(a.w, a.s, a.l, a.p, a.x)) }),
		probe.Of("Take", errors, func(a args) probe.Told {
			l, p, e := saggar.Take(a.w, a.s, a.l, a.p, -1)
			return probe.Told{Zero: len(l) == 0 && len(p) == 0, Error: e}
		}),
	}
}

// spoilt returns right arguments with those made wrong that have one of the errors.
func spoilt(errors []api.Errno) args {
	a := args{pots(), low(), three(), []api.Stand{at(0, 0), turned(0, 2), at(1, 0)}, item(1, 1, 0)}
	for _, e := range errors {
		switch e {
		case api.ErrWares:
			a.w.Shapes = append(a.w.Shapes, api.Shape{})
		case api.ErrBox:
			a.s.Wide = 0
		case api.ErrItems:
			a.l[2].Many = 0
		case api.ErrPack:
			a.p[2] = at(0, 1)
		case api.ErrItem:
			a.x.Clear = -1
		}
	}
	return a
}

func allCalls() []call { return slices.Concat(itemCalls(), listCalls(), packCalls()) }

func TestFirstErrorDecides(t *testing.T) {
	for _, name := range probe.OutOfOrder(allCalls(), spoilt) {
		t.Error(name)
	}
}

// checkErrors runs calls with arguments of which one is wrong.
func checkErrors(t *testing.T, want api.Errno, spoil func(a *args)) {
	t.Helper()
	a := spoilt(nil)
	spoil(&a)
	for _, name := range probe.Missed(allCalls(), want, a) {
		t.Error(name, a)
	}
}

func TestEachWrongArgument(t *testing.T) {
	for _, w := range wrongWares() {
		checkErrors(t, api.ErrWares, func(a *args) { a.w = w })
	}
	for _, s := range wrongBoxes() {
		checkErrors(t, api.ErrBox, func(a *args) { a.s = s })
	}
	for _, x := range wrongItems() {
		checkErrors(t, api.ErrItem, func(a *args) { a.x = x })
		for i := range three() {
			checkErrors(t, api.ErrItems, func(a *args) { a.l[i] = x })
		}
	}
	tiny := item(1, 1, 0)
	checkErrors(t, api.ErrItems, func(a *args) { a.l = slices.Repeat([]api.Item{tiny}, api.MaxItems+1) })
}

func TestArgumentsAreNotChanged(t *testing.T) {
	a, b := spoilt(nil), spoilt(nil)
	for _, c := range allCalls() {
		c.Run(a)
		if !slices.Equal(a.w.Shapes, b.w.Shapes) || !slices.Equal(a.l, b.l) || !slices.Equal(a.p, b.p) {
			t.Fatal(c.Name, a)
		}
	}
}
