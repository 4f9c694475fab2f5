package heat_test

import (
	"math"
	"math/rand"
	"slices"
	"testing"

	"potbank/api"
	"potbank/heat"
	"potbank/probe"
)

var (
	span         = probe.Span
	wrongNumbers = probe.WrongNumbers
	wrongRanges  = probe.WrongRanges
)

func bent(source, place, mark int) api.Reading {
	return api.Reading{Source: source, Place: place, Kind: api.Bent, Mark: mark}
}

func standing(source, place, mark int) api.Reading {
	return api.Reading{Source: source, Place: place, Kind: api.Standing, Mark: mark}
}

func ring(source, place, lo, hi int) api.Reading {
	return api.Reading{Source: source, Place: place, Kind: api.Ring, Heat: span(lo, hi)}
}

// kilnK is K of the chapter's examples, and firingF its F.
func kilnK() api.Kiln {
	return api.Kiln{Falls: [][]api.Range{
		{span(100, 200), span(300, 400), span(600, 800)},
		{span(600, 800), span(300, 400), span(100, 200)},
	}}
}

func firingF(more ...api.Reading) api.Firing {
	return firing(kilnK(), append([]api.Reading{bent(1, 0, 1000), standing(2, 0, 1101), standing(3, 2, 901)}, more...)...)
}

func firing(k api.Kiln, readings ...api.Reading) api.Firing {
	return api.Firing{Kiln: k, Readings: readings}
}

// falseF is a firing that is not sound: that of the chapter's last example.
func falseF() api.Firing { return firingF(standing(4, 1, 600)) }

// even returns a kiln all of whose falls are alike.
func even(mouths, places int, fall api.Range) api.Kiln {
	var k api.Kiln
	for range mouths {
		k.Falls = append(k.Falls, slices.Repeat([]api.Range{fall}, places))
	}
	return k
}

func isSameKiln(x, y api.Kiln) bool {
	return slices.EqualFunc(x.Falls, y.Falls, slices.Equal[[]api.Range])
}

func isSame(x, y api.Firing) bool {
	return isSameKiln(x.Kiln, y.Kiln) && slices.Equal(x.Readings, y.Readings)
}

func isNone(x api.Firing) bool { return len(x.Kiln.Falls) == 0 && len(x.Readings) == 0 }

func wrongKilns() []api.Kiln {
	kilns := []api.Kiln{
		{}, {Falls: [][]api.Range{{}}}, {Falls: [][]api.Range{nil, nil}},
		even(7, 1, span(0, 0)), even(1, 25, span(0, 0)), even(7, 25, span(0, 0)), even(100, 100, span(0, 0)),
		{Falls: [][]api.Range{{span(1, 2)}, {}}}, {Falls: [][]api.Range{{}, {span(1, 2)}}},
		{Falls: [][]api.Range{{span(1, 2)}, {span(1, 2), span(1, 2)}}},
		{Falls: [][]api.Range{{span(1, 2), span(1, 2)}, {span(1, 2)}}},
	}
	for _, r := range wrongRanges(0, 3000) {
		first, last := kilnK(), kilnK()
		first.Falls[0][0], last.Falls[1][2] = r, r
		kilns = append(kilns, first, last)
	}
	return kilns
}

// wrongReadings lists readings that are not valid for K.
func wrongReadings() []api.Reading {
	l := []api.Reading{
		{}, {Source: 1, Kind: api.Ring}, {Source: 1, Kind: api.Bent}, {Source: 1, Kind: api.Standing},
		{Source: 1, Kind: api.Ring, Mark: 1, Heat: span(1, 2)}, {Source: 1, Kind: api.Ring, Mark: -1, Heat: span(1, 2)},
		{Source: 1, Kind: api.Ring, Mark: 1000}, {Source: 1, Kind: api.Bent, Heat: span(1, 2)},
	}
	for _, x := range []api.Reading{bent(1, 0, 5), standing(1, 0, 5)} {
		for _, r := range []api.Range{span(0, 1), span(1, 1), span(-1, 0), span(1, 0)} {
			x.Heat = r
			l = append(l, x)
		}
	}
	for _, n := range wrongNumbers(1, 99999) {
		l = append(l, bent(n, 0, 5), standing(n, 0, 5), ring(n, 0, 5, 5))
	}
	for _, n := range wrongNumbers(0, 2) {
		l = append(l, bent(1, n, 5), standing(1, n, 5), ring(1, n, 5, 5))
	}
	for _, n := range wrongNumbers(1, 2000) {
		l = append(l, bent(1, 0, n), standing(1, 0, n))
	}
	for _, r := range wrongRanges(1, 2000) {
		l = append(l, ring(1, 0, r.Lo, r.Hi))
	}
	for _, kind := range append(wrongNumbers(1, 3), 5, -3) {
		x, y := bent(1, 0, 5), ring(1, 0, 5, 5)
		x.Kind, y.Kind = kind, kind
		l = append(l, x, y)
	}
	return l
}

func wrongFirings() []api.Firing {
	many := slices.Repeat([]api.Reading{bent(1, 0, 5)}, 61)
	firings := []api.Firing{{}, firing(kilnK(), many...)}
	for _, k := range wrongKilns() {
		firings = append(firings, firing(k, bent(1, 0, 5)))
	}
	for _, r := range wrongReadings() {
		firings = append(firings, firing(kilnK(), r), firingF(r), firing(kilnK(), r, bent(1, 0, 5)))
	}
	return firings
}

func TestKilns(t *testing.T) {
	for _, x := range []struct {
		k      api.Kiln
		places int
	}{
		{kilnK(), 3}, {even(1, 1, span(0, 0)), 1}, {even(6, 24, span(0, 3000)), 24}, {even(6, 1, span(3000, 3000)), 1},
		{even(1, 24, span(5, 5)), 24},
	} {
		if e := heat.CheckKiln(x.k); e != api.OK {
			t.Error(x, e)
		}
		if n := heat.Places(x.k); n != x.places {
			t.Error(x, n)
		}
	}
	for _, k := range wrongKilns() {
		if e := heat.CheckKiln(k); e != api.ErrKiln {
			t.Error(k, e)
		}
		if n := heat.Places(k); n != 0 {
			t.Error(k, n)
		}
	}
}

func TestCheckReading(t *testing.T) {
	for _, r := range []api.Reading{
		bent(1, 0, 1), bent(99999, 2, 2000), standing(1, 2, 1), standing(99999, 0, 2000),
		ring(1, 0, 1, 1), ring(1, 1, 2000, 2000), ring(99999, 2, 1, 2000), ring(5, 1, 1010, 1020),
	} {
		if e := heat.CheckReading(kilnK(), r); e != api.OK {
			t.Error(r, e)
		}
	}
	for _, r := range wrongReadings() {
		if e := heat.CheckReading(kilnK(), r); e != api.ErrReading {
			t.Error(r, e)
		}
	}
	for _, k := range wrongKilns() {
		for _, r := range []api.Reading{bent(1, 0, 5), {}} {
			if e := heat.CheckReading(k, r); e != api.ErrKiln {
				t.Error(k, r, e)
			}
		}
	}
}

func TestCheck(t *testing.T) {
	sixty := slices.Repeat([]api.Reading{bent(1, 0, 5)}, 60)
	for _, f := range []api.Firing{firing(kilnK()), firingF(), falseF(), firing(kilnK(), sixty...)} {
		if e := heat.Check(f); e != api.OK {
			t.Error(f, e)
		}
	}
	many := append(sixty, bent(1, 0, 5))
	for _, f := range []api.Firing{firing(kilnK(), many...), firing(kilnK(), append(many, api.Reading{})...)} {
		if e := heat.Check(f); e != api.ErrLong {
			t.Error(f, e)
		}
	}
	for _, k := range wrongKilns() {
		for _, f := range []api.Firing{firing(k), firing(k, bent(1, 0, 5)), firing(k, many...), firing(k, api.Reading{})} {
			if e := heat.Check(f); e != api.ErrKiln {
				t.Error(f, e)
			}
		}
	}
	for _, r := range wrongReadings() {
		for _, f := range []api.Firing{firing(kilnK(), r), firingF(r), firing(kilnK(), r, bent(1, 0, 5))} {
			if e := heat.Check(f); e != api.ErrReading {
				t.Error(f, e)
			}
		}
	}
}

func TestWith(t *testing.T) {
	f, e := heat.With(firingF(), standing(4, 1, 600))
	if !isSame(f, falseF()) || e != api.OK {
		t.Error(f, e)
	}
	// A reading may come twice.
	f, e = heat.With(firingF(), bent(1, 0, 1000))
	if !isSame(f, firingF(bent(1, 0, 1000))) || e != api.OK {
		t.Error(f, e)
	}
	f, e = heat.With(firing(kilnK()), ring(9, 2, 1, 2))
	if !isSame(f, firing(kilnK(), ring(9, 2, 1, 2))) || e != api.OK {
		t.Error(f, e)
	}
	for _, r := range wrongReadings() {
		if f, e := heat.With(firingF(), r); !isNone(f) || e != api.ErrReading {
			t.Error(r, f, e)
		}
	}
}

func TestWithUpToTheMost(t *testing.T) {
	f := firing(kilnK())
	for i := range 60 {
		var e api.Errno
		if f, e = heat.With(f, bent(60-i, i%3, 5)); e != api.OK || len(f.Readings) != i+1 {
			t.Fatal(f, e)
		}
	}
	if f, e := heat.With(f, bent(1, 0, 5)); !isNone(f) || e != api.ErrLong {
		t.Error(f, e)
	}
	if f, e := heat.With(f, bent(1, 3, 5)); !isNone(f) || e != api.ErrReading {
		t.Error("the reading is examined first", f, e)
	}
	want := make([]int, 60)
	for i := range want {
		want[i] = i + 1
	}
	if l, e := heat.Sources(f); !slices.Equal(l, want) || e != api.OK {
		t.Error(l, e)
	}
}

func TestSources(t *testing.T) {
	for _, x := range []struct {
		f    api.Firing
		want []int
	}{
		{firing(kilnK()), nil}, {firingF(), []int{1, 2, 3}}, {firingF(bent(2, 1, 1), bent(1, 1, 1)), []int{1, 2, 3}},
		{firing(kilnK(), bent(99999, 0, 1), ring(7, 0, 1, 2), bent(10, 0, 1), bent(7, 1, 1)), []int{7, 10, 99999}},
	} {
		if l, e := heat.Sources(x.f); !slices.Equal(l, x.want) || e != api.OK {
			t.Error(x, l, e)
		}
	}
}

func TestWithout(t *testing.T) {
	f := firingF(bent(2, 1, 1), bent(1, 1, 1))
	for source, want := range map[int]api.Firing{
		1: firing(kilnK(), standing(2, 0, 1101), standing(3, 2, 901), bent(2, 1, 1)),
		2: firing(kilnK(), bent(1, 0, 1000), standing(3, 2, 901), bent(1, 1, 1)),
		3: firing(kilnK(), bent(1, 0, 1000), standing(2, 0, 1101), bent(2, 1, 1), bent(1, 1, 1)),
	} {
		if g, e := heat.Without(f, source); !isSame(g, want) || e != api.OK {
			t.Error(source, g, e)
		}
	}
	if g, e := heat.Without(firing(kilnK(), bent(7, 0, 1)), 7); !isSame(g, firing(kilnK())) || e != api.OK {
		t.Error(g, e)
	}
	for _, source := range []int{0, 4, -1, 100000, math.MinInt, math.MaxInt} {
		if g, e := heat.Without(f, source); !isNone(g) || e != api.ErrNone {
			t.Error(source, g, e)
		}
	}
	if g, e := heat.Without(firing(kilnK()), 1); !isNone(g) || e != api.ErrNone {
		t.Error(g, e)
	}
}

// A firing that is made of another one shares no memory with it, and no falls of it share any with others.
func TestMadeFiringsAreNew(t *testing.T) {
	f := firingF()
	// Room behind the readings and falls, which appending would write into.
	f.Readings = slices.Grow(f.Readings, 5)
	f.Kiln.Falls[0] = slices.Grow(f.Kiln.Falls[0], 5)
	with, _ := heat.With(f, bent(4, 1, 5))
	other, _ := heat.With(f, bent(5, 1, 5))
	without, _ := heat.Without(f, 1)
	last, _ := heat.Without(f, 3)
	for _, g := range []api.Firing{with, without, last} {
		for i := range g.Readings {
			g.Readings[i].Mark = 77
		}
		for j := range g.Kiln.Falls {
			g.Kiln.Falls[j] = append(g.Kiln.Falls[j], span(7, 7))
			for p := range g.Kiln.Falls[j] {
				g.Kiln.Falls[j][p] = span(7, 7)
			}
		}
		g.Kiln.Falls[0] = nil
		_ = append(g.Readings, bent(9, 1, 99))
	}
	if !isSame(f, firingF()) || !isSame(other, firingF(bent(5, 1, 5))) {
		t.Error(f, other)
	}
}

// someFirings makes firings of at most so many mouths, places, readings and sources.
type someFirings struct {
	r                                 *rand.Rand
	mouths, places, readings, sources int
	coldest, marks, rise              int // so many marks, from coldest on; rings tell up to rise numbers
	least, falls, wide                int // so many falls, from least on, with up to wide numbers
}

func (s someFirings) fall() api.Range {
	lo := s.least + s.r.Intn(s.falls)
	return span(lo, lo+s.r.Intn(s.wide))
}

func (s someFirings) kiln() api.Kiln {
	k := even(1+s.r.Intn(s.mouths), 1+s.r.Intn(s.places), span(0, 0))
	for _, falls := range k.Falls {
		for p := range falls {
			falls[p] = s.fall()
		}
	}
	return k
}

func (s someFirings) reading(k api.Kiln) api.Reading {
	source, place, mark := 1+s.r.Intn(s.sources), s.r.Intn(len(k.Falls[0])), s.coldest+s.r.Intn(s.marks)
	switch s.r.Intn(3) {
	case 0:
		return bent(source, place, mark)
	case 1:
		return standing(source, place, mark)
	}
	return ring(source, place, mark, mark+s.r.Intn(s.rise))
}

func (s someFirings) firing() api.Firing {
	f := firing(s.kiln())
	for range s.r.Intn(s.readings + 1) {
		f.Readings = append(f.Readings, s.reading(f.Kiln))
	}
	return f
}
