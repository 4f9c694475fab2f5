package bung_test

import (
	"math/rand"
	"slices"
	"testing"

	"potbank/api"
	"potbank/bung"
	"potbank/probe"
)

var (
	span         = probe.Span
	wrongNumbers = probe.WrongNumbers
	wrongRanges  = probe.WrongRanges
)

// a, b and c are A, B and C of the chapter's examples.
func a() api.Saggar {
	return api.Saggar{Id: 1, Weight: span(100, 120), Bears: span(300, 350), High: span(200, 210), Tilt: 5}
}

func b() api.Saggar {
	return api.Saggar{Id: 2, Weight: span(80, 90), Bears: span(150, 200), High: span(200, 210), Tilt: 10}
}

func c() api.Saggar {
	return api.Saggar{Id: 3, Weight: span(60, 60), Bears: span(50, 60), High: span(100, 100), Tilt: 0}
}

// clay is the wad of the examples.
func clay() api.Range { return span(5, 10) }

func of(l ...api.Saggar) api.Bung { return api.Bung{Wad: clay(), Saggars: l} }

func spot(crown, lean int) api.Spot { return api.Spot{Crown: crown, Lean: lean} }

// light returns n saggars that weigh and bear nothing.
func light(n int) []api.Saggar {
	l := make([]api.Saggar, n)
	for i := range l {
		l[i] = api.Saggar{Id: i + 1, High: span(1, 1)}
	}
	return l
}

// greatest returns a saggar all of whose numbers are as great as may be.
func greatest(id int) api.Saggar {
	return api.Saggar{Id: id, Weight: span(api.MaxLoad, api.MaxLoad), Bears: span(api.MaxLoad, api.MaxLoad), High: span(api.MaxTall, api.MaxTall), Tilt: api.MaxTilt}
}

func wrongSaggars() []api.Saggar {
	l := []api.Saggar{{}}
	number := func(lo, hi int, number func(s *api.Saggar) *int) {
		for _, n := range wrongNumbers(lo, hi) {
			s := a()
			*number(&s) = n
			l = append(l, s)
		}
	}
	ranges := func(lo, hi int, of func(s *api.Saggar) *api.Range) {
		for _, r := range wrongRanges(lo, hi) {
			s := a()
			*of(&s) = r
			l = append(l, s)
		}
	}
	number(1, 999, func(s *api.Saggar) *int { return &s.Id })
	number(0, 200, func(s *api.Saggar) *int { return &s.Tilt })
	ranges(0, 10000000, func(s *api.Saggar) *api.Range { return &s.Weight })
	ranges(0, 10000000, func(s *api.Saggar) *api.Range { return &s.Bears })
	ranges(1, 10000, func(s *api.Saggar) *api.Range { return &s.High })
	return l
}

func wrongLists() [][]api.Saggar {
	lists := [][]api.Saggar{{a(), a()}, {a(), b(), c(), a()}, light(31), light(1000)}
	for _, s := range wrongSaggars() {
		lists = append(lists, []api.Saggar{s}, []api.Saggar{b(), s}, []api.Saggar{s, b()})
	}
	return lists
}

func wrongBungs() []api.Bung {
	bungs := []api.Bung{{}, of()}
	for _, l := range wrongLists() {
		bungs = append(bungs, of(l...))
	}
	for _, wad := range wrongRanges(0, 200) {
		bungs = append(bungs, api.Bung{Wad: wad, Saggars: []api.Saggar{a()}})
	}
	return bungs
}

func wrongSpots() []api.Spot {
	var l []api.Spot
	for _, n := range wrongNumbers(0, 400000) {
		l = append(l, spot(n, 9))
	}
	for _, n := range wrongNumbers(0, 100000) {
		l = append(l, spot(9, n))
	}
	return l
}

// someRange returns a range of up to three numbers, from lo to somewhat more than hi.
func someRange(r *rand.Rand, lo, hi int) api.Range {
	n := lo + r.Intn(hi-lo+1)
	return span(n, n+r.Intn(3))
}

// someSaggars returns n saggars that bear up to about so much, with Ids in no order.
func someSaggars(r *rand.Rand, n, bears int) []api.Saggar {
	l := make([]api.Saggar, n)
	for i, id := range r.Perm(n) {
		l[i] = api.Saggar{
			Id:     id + 1,
			Weight: someRange(r, 0, 9),
			Bears:  someRange(r, 0, bears),
			High:   someRange(r, 1, 9),
			Tilt:   r.Intn(200),
		}
	}
	return l
}

// someBung returns a bung of 1 to most saggars.
func someBung(r *rand.Rand, most int) api.Bung {
	return api.Bung{Wad: someRange(r, 0, 3), Saggars: someSaggars(r, 1+r.Intn(most), 20)}
}

func TestCheckSaggar(t *testing.T) {
	for _, s := range []api.Saggar{a(), b(), c(), {Id: 1, High: span(1, 1)}, greatest(999), {
		Id: 5, Weight: span(0, api.MaxLoad), Bears: span(0, api.MaxLoad), High: span(1, api.MaxTall), Tilt: 1,
	}} {
		if e := bung.CheckSaggar(s); e != api.OK {
			t.Error(s, e)
		}
	}
	for _, s := range wrongSaggars() {
		if e := bung.CheckSaggar(s); e != api.ErrSaggar {
			t.Error(s, e)
		}
	}
}

func TestCheckList(t *testing.T) {
	for _, l := range [][]api.Saggar{nil, {}, {a()}, {c(), a(), b()}, light(30)} {
		if e := bung.CheckList(l); e != api.OK {
			t.Error(l, e)
		}
	}
	for _, l := range wrongLists() {
		if e := bung.CheckList(l); e != api.ErrSaggar {
			t.Error(l, e)
		}
	}
}

func TestCheck(t *testing.T) {
	for _, x := range []api.Bung{
		of(a()), of(a(), b(), c()), of(c(), b(), a()), of(light(30)...),
		{Saggars: light(2)}, {Wad: span(200, 200), Saggars: light(2)}, {Wad: span(0, 200), Saggars: light(2)},
	} {
		if e := bung.Check(x); e != api.OK {
			t.Error(x, e)
		}
	}
	for _, x := range wrongBungs() {
		if e := bung.Check(x); e != api.ErrBung {
			t.Error(x, e)
		}
	}
}

func TestCheckSpot(t *testing.T) {
	for _, s := range []api.Spot{spot(0, 0), spot(400000, 100000), spot(540, 4)} {
		if e := bung.CheckSpot(s); e != api.OK {
			t.Error(s, e)
		}
	}
	for _, s := range wrongSpots() {
		if e := bung.CheckSpot(s); e != api.ErrSpot {
			t.Error(s, e)
		}
	}
}

func isSame(x, y api.Bung) bool { return x.Wad == y.Wad && slices.Equal(x.Saggars, y.Saggars) }

func isNone(x api.Bung) bool { return x.Wad == api.Range{} && len(x.Saggars) == 0 }
