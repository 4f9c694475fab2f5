package saggar_test

import (
	"slices"
	"testing"

	"potbank/api"
	"potbank/saggar"
)

// args are all that the functions of the package take, but for what each has as its last argument.
type args struct {
	w api.Wares
	s api.Box
	l []api.Item
	p []api.Stand
	x api.Item
}

// call is a function with the errors that its arguments may have, in the order of the chapter; zero tells whether its results are zero values.
type call struct {
	name   string
	errors []api.Errno
	run    func(a args) (zero bool, e api.Errno)
}

// one turns a function with one result, and its error, into what run returns.
func one[T any](zero func(T) bool) func(T, api.Errno) (bool, api.Errno) {
	return func(v T, e api.Errno) (bool, api.Errno) { return zero(v), e }
}

func isZero[T comparable](v T) bool {
	var none T
	return v == none
}

func isEmpty[T any](l []T) bool { return len(l) == 0 }

func itemCalls() []call {
	errors := []api.Errno{api.ErrWares, api.ErrBox, api.ErrItem}
	return []call{
		{"CheckItem", []api.Errno{api.ErrWares, api.ErrItem}, func(a args) (bool, api.Errno) { return true, saggar.CheckItem(a.w, a.x) }},
		{"Foot", errors, func(a args) (bool, api.Errno) { return one(isZero[api.Foot])(saggar.Foot(a.w, a.s, a.x)) }},
		{"Stands", errors, func(a args) (bool, api.Errno) { return one(isEmpty[api.Stand])(saggar.Stands(a.w, a.s, a.x)) }},
		{"Most", errors, func(a args) (bool, api.Errno) { return one(isZero[int])(saggar.Most(a.w, a.s, a.x)) }},
	}
}

func listCalls() []call {
	errors := []api.Errno{api.ErrWares, api.ErrBox, api.ErrItems}
	return []call{
		{"Feet", errors, func(a args) (bool, api.Errno) { return one(isEmpty[api.Foot])(saggar.Feet(a.w, a.s, a.l)) }},
		{"Pack", errors, func(a args) (bool, api.Errno) { return one(isEmpty[api.Stand])(saggar.Pack(a.w, a.s, a.l)) }},
		{"Packs", errors, func(a args) (bool, api.Errno) { return one(isZero[int])(saggar.Packs(a.w, a.s, a.l)) }},
		{"Nth", errors, func(a args) (bool, api.Errno) { return one(isEmpty[api.Stand])(saggar.Nth(a.w, a.s, a.l, -1)) }},
		{"Refuse", errors, func(a args) (bool, api.Errno) {
			r, e := saggar.Refuse(a.w, a.s, a.l)
			return r.Kind == 0 && len(r.Items) == 0, e
		}},
		{"CheckRefusal", errors, func(a args) (bool, api.Errno) {
			return true, saggar.CheckRefusal(a.w, a.s, a.l, api.Refusal{Kind: 9, Items: []int{-1}})
		}},
		{"Groups", errors, func(a args) (bool, api.Errno) { return one(isEmpty[[]int])(saggar.Groups(a.w, a.s, a.l)) }},
		{"CheckGroups", errors, func(a args) (bool, api.Errno) {
			return true, saggar.CheckGroups(a.w, a.s, a.l, [][]int{{-1}})
		}},
	}
}

func packCalls() []call {
	errors := []api.Errno{api.ErrWares, api.ErrBox, api.ErrItems, api.ErrPack}
	return []call{
		{"CheckPack", errors, func(a args) (bool, api.Errno) { return true, saggar.CheckPack(a.w, a.s, a.l, a.p) }},
		{"Grid", errors, func(a args) (bool, api.Errno) { return one(isEmpty[[]int])(saggar.Grid(a.w, a.s, a.l, a.p)) }},
		{"Free", errors, func(a args) (bool, api.Errno) { return one(isZero[int])(saggar.Free(a.w, a.s, a.l, a.p)) }},
		{"Add", append(errors, api.ErrItem), func(a args) (bool, api.Errno) { return one(isZero[api.Stand])(saggar.Add(a.w, a.s, a.l, a.p, a.x)) }},
		{"Take", errors, func(a args) (bool, api.Errno) {
			l, p, e := saggar.Take(a.w, a.s, a.l, a.p, -1)
			return len(l) == 0 && len(p) == 0, e
		}},
	}
}

// spoilt returns right arguments with those made wrong that have one of the errors.
func spoilt(errors []api.Errno) args {
	a := args{pots(), low(), three(), []api.Stand{at(0, 0), turned(0, 2), at(1, 0)}, item(1, 1, 0)}
	for _, e := range errors {
		switch e {
		case api.ErrWares:
			a.w.Shapes = append(a.w.Shapes, api.Shape{})
		case api.ErrBox:
			a.s.Wide = 0
		case api.ErrItems:
			a.l[2].Many = 0
		case api.ErrPack:
			a.p[2] = at(0, 1)
		case api.ErrItem:
			a.x.Clear = -1
		}
	}
	return a
}

func TestFirstErrorDecides(t *testing.T) {
	for _, c := range slices.Concat(itemCalls(), listCalls(), packCalls()) {
		for choice := 1; choice < 1<<len(c.errors); choice++ {
			var errors []api.Errno
			for i, e := range c.errors {
				if choice>>i&1 == 1 {
					errors = append(errors, e)
				}
			}
			if zero, e := c.run(spoilt(errors)); !zero || e != errors[0] {
				t.Error(c.name, errors, zero, e)
			}
		}
	}
}

// checkErrors runs calls with arguments of which one is wrong.
func checkErrors(t *testing.T, calls []call, want api.Errno, spoil func(a *args)) {
	t.Helper()
	for _, c := range calls {
		a := spoilt(nil)
		spoil(&a)
		if zero, e := c.run(a); slices.Contains(c.errors, want) && (!zero || e != want) {
			t.Error(c.name, a, zero, e)
		}
	}
}

func TestEachWrongArgument(t *testing.T) {
	all := slices.Concat(itemCalls(), listCalls(), packCalls())
	for _, w := range wrongWares() {
		checkErrors(t, all, api.ErrWares, func(a *args) { a.w = w })
	}
	for _, s := range wrongBoxes() {
		checkErrors(t, all, api.ErrBox, func(a *args) { a.s = s })
	}
	for _, x := range wrongItems() {
		checkErrors(t, all, api.ErrItem, func(a *args) { a.x = x })
		for i := range three() {
			checkErrors(t, all, api.ErrItems, func(a *args) { a.l[i] = x })
		}
	}
	tiny := item(1, 1, 0)
	checkErrors(t, all, api.ErrItems, func(a *args) { a.l = slices.Repeat([]api.Item{tiny}, api.MaxItems+1) })
}

func TestArgumentsAreNotChanged(t *testing.T) {
	a, b := spoilt(nil), spoilt(nil)
	for _, c := range slices.Concat(itemCalls(), listCalls(), packCalls()) {
		c.run(a)
		if !slices.Equal(a.w.Shapes, b.w.Shapes) || !slices.Equal(a.l, b.l) || !slices.Equal(a.p, b.p) {
			t.Fatal(c.name, a)
		}
	}
}
