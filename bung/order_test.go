package bung_test

import (
	"math"
	"math/rand"
	"slices"
	"testing"

	"potbank/api"
	"potbank/bung"
)

func TestRuleExamples(t *testing.T) {
	d := a()
	d.Id, d.Weight.Lo, d.Bears.Hi = 9, 0, 1000
	even := a()
	even.Id, even.Weight, even.Bears = 5, span(0, 300), span(120, 120)
	for _, x := range []struct {
		l    []api.Saggar
		want []int
	}{
		{[]api.Saggar{a(), b(), c()}, []int{0, 1, 2}},
		{[]api.Saggar{c(), b(), a()}, []int{2, 1, 0}},
		{[]api.Saggar{b(), c(), a()}, []int{2, 0, 1}},
		{nil, nil},
		{[]api.Saggar{c()}, []int{0}},
		// Neither the least weight nor the most that is borne counts, and equal ones stand by their Ids.
		{[]api.Saggar{d, c(), even, a()}, []int{3, 2, 0, 1}},
		{[]api.Saggar{a(), even, d}, []int{0, 1, 2}},
	} {
		if l, e := bung.Rule(x.l); !slices.Equal(l, x.want) || e != api.OK {
			t.Error(x, l, e)
		}
	}
}

func TestRuleOrders(t *testing.T) {
	r := rand.New(rand.NewSource(7))
	for range 1000 {
		l := someSaggars(r, r.Intn(31), 15)
		order, e := bung.Rule(l)
		if e != api.OK || len(order) != len(l) {
			t.Fatal(l, order, e)
		}
		for i := 1; i < len(order); i++ {
			below, above := l[order[i-1]], l[order[i]]
			x, y := below.Weight.Hi+below.Bears.Lo, above.Weight.Hi+above.Bears.Lo
			if x < y || x == y && below.Id >= above.Id {
				t.Fatal(l, order)
			}
		}
	}
}

// standsInSomeOrder goes through all orders in which saggars may stand on those that stand already.
func standsInSomeOrder(stand, rest []api.Saggar) bool {
	if len(rest) == 0 {
		return len(stand) == 0 || surelyStands(stand)
	}
	for i := range rest {
		if standsInSomeOrder(append(slices.Clone(stand), rest[i]), slices.Delete(slices.Clone(rest), i, i+1)) {
			return true
		}
	}
	return false
}

func surelyStands(l []api.Saggar) bool {
	for i, s := range l {
		load := 0
		for _, above := range l[i+1:] {
			load += above.Weight.Hi
		}
		if load > s.Bears.Lo {
			return false
		}
	}
	return true
}

func TestCanStandExamples(t *testing.T) {
	weak := a()
	weak.Id, weak.Bears = 4, api.Range{}
	for _, x := range []struct {
		l    []api.Saggar
		want bool
	}{
		{[]api.Saggar{c(), b(), a()}, true},
		{[]api.Saggar{b(), a(), c()}, true},
		{nil, true},
		{[]api.Saggar{weak}, true},
		{[]api.Saggar{a(), weak}, true},
		{[]api.Saggar{a(), b(), c(), weak}, false},
		{[]api.Saggar{b(), c()}, true},
		{[]api.Saggar{greatest(1), greatest(2)}, true},
		{[]api.Saggar{greatest(1), greatest(2), greatest(3)}, false},
	} {
		if is, e := bung.CanStand(x.l); is != x.want || e != api.OK {
			t.Error(x, is, e)
		}
	}
}

func TestCanStandInSomeOrder(t *testing.T) {
	r := rand.New(rand.NewSource(8))
	var seen [2]int
	for range 2000 {
		l := someSaggars(r, r.Intn(6), 20)
		want := standsInSomeOrder(nil, l)
		if is, e := bung.CanStand(l); is != want || e != api.OK {
			t.Fatal(l, is, want, e)
		}
		if !want {
			seen[0]++
			continue
		}
		seen[1]++
		if len(l) == 0 {
			continue
		}
		order, _ := bung.Rule(l)
		x, e := bung.Set(clay(), l, order)
		if n, _ := bung.Stands(x); n != api.Yes || e != api.OK {
			t.Fatal(l, order, n, e)
		}
	}
	if slices.Min(seen[:]) < 100 {
		t.Error("the cases are lopsided", seen)
	}
}

func TestSet(t *testing.T) {
	l := []api.Saggar{a(), b(), c()}
	for _, x := range []struct {
		order []int
		want  []api.Saggar
	}{
		{[]int{0, 1, 2}, l},
		{[]int{2, 0}, []api.Saggar{c(), a()}},
		{[]int{1}, []api.Saggar{b()}},
	} {
		if y, e := bung.Set(clay(), l, x.order); !isSame(y, of(x.want...)) || e != api.OK {
			t.Error(x, y, e)
		}
	}
	for _, order := range [][]int{
		nil, {}, {3}, {-1}, {0, 3}, {-1, 0}, {0, 0}, {0, 1, 0}, {0, 1, 2, 2}, {0, 1, 2, 3}, {math.MaxInt}, {0, math.MinInt},
	} {
		if y, e := bung.Set(clay(), l, order); !isNone(y) || e != api.ErrArg {
			t.Error(order, y, e)
		}
	}
	for _, order := range [][]int{nil, {0}} {
		if y, e := bung.Set(clay(), nil, order); !isNone(y) || e != api.ErrArg {
			t.Error(order, y, e)
		}
	}
}

func TestSwap(t *testing.T) {
	for at, want := range []api.Bung{of(b(), a(), c()), of(a(), c(), b())} {
		if y, e := bung.Swap(of(a(), b(), c()), at); !isSame(y, want) || e != api.OK {
			t.Error(at, y, e)
		}
	}
	for _, at := range []int{-1, 2, 3, math.MaxInt, math.MaxInt - 1, math.MinInt} {
		if y, e := bung.Swap(of(a(), b(), c()), at); !isNone(y) || e != api.ErrArg {
			t.Error(at, y, e)
		}
	}
	for _, at := range []int{-1, 0, 1} {
		if y, e := bung.Swap(of(a()), at); !isNone(y) || e != api.ErrArg {
			t.Error(at, y, e)
		}
	}
}

// Neighbours that stand against the rule: the upper one is ahead of the lower one in it.
func TestSwapOfNeighboursAgainstTheRule(t *testing.T) {
	r := rand.New(rand.NewSource(9))
	swapped := 0
	for range 5000 {
		x := someBung(r, 6)
		if n, _ := bung.Stands(x); n != api.Yes {
			continue
		}
		order, _ := bung.Rule(x.Saggars)
		for at := range len(x.Saggars) - 1 {
			if slices.Index(order, at+1) > slices.Index(order, at) {
				continue
			}
			swapped++
			y, e := bung.Swap(x, at)
			if n, _ := bung.Stands(y); n != api.Yes || e != api.OK {
				t.Fatal(x, at, n, e)
			}
		}
	}
	if swapped < 100 {
		t.Error("the cases are lopsided", swapped)
	}
}

func TestTop(t *testing.T) {
	if x, e := bung.Top(of(a(), b()), c()); !isSame(x, of(a(), b(), c())) || e != api.OK {
		t.Error(x, e)
	}
	if x, e := bung.Top(of(c()), a()); !isSame(x, of(c(), a())) || e != api.OK {
		t.Error("what does not stand may be put on top too", x, e)
	}
	l := light(30)
	if x, e := bung.Top(of(l[:29]...), l[29]); !isSame(x, of(l...)) || e != api.OK {
		t.Error(x, e)
	}
	twin := c()
	twin.Id = 1
	for _, x := range []struct {
		b    api.Bung
		s    api.Saggar
		want api.Errno
	}{
		{of(a(), b()), a(), api.ErrSaggar},
		{of(a(), b()), b(), api.ErrSaggar},
		{of(a(), b()), twin, api.ErrSaggar},
		{of(l...), greatest(31), api.ErrLong},
		{of(l...), greatest(30), api.ErrLong},
		{of(l...), api.Saggar{}, api.ErrSaggar},
	} {
		if y, e := bung.Top(x.b, x.s); !isNone(y) || e != x.want {
			t.Error(x, y, e)
		}
	}
}

// Results are new memory, that has no room of the arguments' behind it.
func TestBungsAreNew(t *testing.T) {
	l := append(make([]api.Saggar, 0, 9), a(), b())
	x := of(l...)
	set, _ := bung.Set(clay(), l, []int{0, 1})
	swapped, _ := bung.Swap(x, 0)
	top, _ := bung.Top(api.Bung{Wad: clay(), Saggars: l}, c())
	other, _ := bung.Top(api.Bung{Wad: clay(), Saggars: l}, greatest(5))
	for _, y := range []api.Bung{set, swapped, top, other} {
		y.Saggars[0].Id = 77
	}
	if !isSame(x, of(a(), b())) || !slices.Equal(l, []api.Saggar{a(), b()}) || l[:3][2] != (api.Saggar{}) || top.Saggars[2] != c() {
		t.Error(x, l, top)
	}
}
