package saggar_test

import (
	"math"
	"math/rand"
	"slices"
	"testing"

	"potbank/api"
	"potbank/probe"
	"potbank/saggar"
)

var (
	span         = probe.Span
	wrongNumbers = probe.WrongNumbers
)

// bowl, dish, pots, low and square are A, D, W, S and T of the chapter's examples.
func bowl() api.Shape {
	return api.Shape{Id: 1, Wide: span(100, 102), Deep: span(100, 102), High: span(50, 51), Nest: 10, Weight: span(200, 210), Bears: 1000}
}

func dish() api.Shape {
	return api.Shape{Id: 2, Wide: span(190, 200), Deep: span(90, 100), High: span(30, 30), Weight: span(500, 500)}
}

func pots() api.Wares { return api.Wares{Shapes: []api.Shape{bowl(), dish()}} }

func low() api.Box { return api.Box{Id: 1, Wide: 3, Deep: 2, Cell: 110, High: 100, Bears: 3000} }

func square() api.Box {
	s := low()
	s.Deep = 3
	return s
}

func item(shape, many, clear int) api.Item { return api.Item{Shape: shape, Many: many, Clear: clear} }

func at(y, x int) api.Stand { return api.Stand{Y: y, X: x} }

func turned(y, x int) api.Stand { return api.Stand{Y: y, X: x, Turned: true} }

// three are the items of the chapter's example of Pack.
func three() []api.Item { return []api.Item{item(2, 1, 5), item(2, 1, 5), item(1, 2, 4)} }

func wrongBoxes() []api.Box {
	l := []api.Box{{}}
	add := func(lo, hi int, number func(s *api.Box) *int) {
		for _, n := range wrongNumbers(lo, hi) {
			s := low()
			*number(&s) = n
			l = append(l, s)
		}
	}
	add(1, api.MaxId, func(s *api.Box) *int { return &s.Id })
	add(1, api.MaxSide, func(s *api.Box) *int { return &s.Wide })
	add(1, api.MaxSide, func(s *api.Box) *int { return &s.Deep })
	add(1, api.MaxCell, func(s *api.Box) *int { return &s.Cell })
	add(1, api.MaxHigh, func(s *api.Box) *int { return &s.High })
	add(0, api.MaxBears, func(s *api.Box) *int { return &s.Bears })
	return l
}

// wrongItems lists items that are not valid for pots: a bowl bears 4 others, a dish none.
func wrongItems() []api.Item {
	l := []api.Item{{}, item(3, 1, 0), item(0, 1, 0), item(math.MinInt, 1, 0), item(1, 6, 0), item(2, 2, 0)}
	for _, n := range wrongNumbers(1, api.MaxPile) {
		l = append(l, item(1, n, 0))
	}
	for _, n := range wrongNumbers(0, api.MaxClear) {
		l = append(l, item(1, 1, n))
	}
	return l
}

func wrongWares() []api.Wares {
	return []api.Wares{
		{Shapes: []api.Shape{bowl(), dish(), {}}},
		{Shapes: []api.Shape{dish(), bowl()}},
		{Shapes: []api.Shape{bowl(), dish()}, Bodies: []api.Body{{}}},
	}
}

func TestCheckBox(t *testing.T) {
	for _, s := range []api.Box{
		low(), square(), {Id: 1, Wide: 1, Deep: 1, Cell: 1, High: 1, Bears: 0},
		{Id: api.MaxId, Wide: api.MaxSide, Deep: api.MaxSide, Cell: api.MaxCell, High: api.MaxHigh, Bears: api.MaxBears},
	} {
		if e := saggar.CheckBox(s); e != api.OK {
			t.Error(s, e)
		}
	}
	for _, s := range wrongBoxes() {
		if e := saggar.CheckBox(s); e != api.ErrBox {
			t.Error(s, e)
		}
	}
}

func TestCheckItem(t *testing.T) {
	for _, x := range []api.Item{item(1, 1, 0), item(1, 5, api.MaxClear), item(2, 1, 0)} {
		if e := saggar.CheckItem(pots(), x); e != api.OK {
			t.Error(x, e)
		}
	}
	light := api.Wares{Shapes: []api.Shape{{Id: 9}}}
	if e := saggar.CheckItem(light, item(9, api.MaxPile, 0)); e != api.OK {
		t.Error("what weighs nothing stands", e)
	}
	for _, x := range wrongItems() {
		if e := saggar.CheckItem(pots(), x); e != api.ErrItem {
			t.Error(x, e)
		}
	}
	if e := saggar.CheckItem(api.Wares{}, item(1, 1, 0)); e != api.ErrItem {
		t.Error(e)
	}
}

func TestFootExamples(t *testing.T) {
	for x, want := range map[api.Item]api.Foot{
		item(1, 2, 4): {Wide: 1, Deep: 1, High: 92, Weight: 420},
		item(1, 1, 5): {Wide: 2, Deep: 2, High: 51, Weight: 210},
		item(2, 1, 5): {Wide: 2, Deep: 1, High: 30, Weight: 500},
		item(2, 1, 6): {Wide: 2, Deep: 2, High: 30, Weight: 500},
		item(1, 5, 0): {Wide: 1, Deep: 1, High: 215, Weight: 1050},
	} {
		if f, e := saggar.Foot(pots(), low(), x); f != want || e != api.OK {
			t.Error(x, f, e)
		}
	}
	fine := low()
	fine.Cell = 1
	if f, e := saggar.Foot(pots(), fine, item(2, 1, 50)); f != (api.Foot{Wide: 300, Deep: 200, High: 30, Weight: 500}) || e != api.OK {
		t.Error(f, e)
	}
	great := api.Wares{Shapes: []api.Shape{{Id: 1, Wide: span(0, 2000), Deep: span(0, 2000), High: span(0, 2000), Weight: span(0, 25641), Bears: api.MaxBears}}}
	if f, e := saggar.Foot(great, fine, item(1, api.MaxPile, 50)); f != (api.Foot{Wide: 2100, Deep: 2100, High: 80000, Weight: 1025640}) || e != api.OK {
		t.Error(f, e)
	}
	none := api.Wares{Shapes: []api.Shape{{Id: 1}}}
	if f, e := saggar.Foot(none, low(), item(1, 1, 0)); f != (api.Foot{Wide: 1, Deep: 1}) || e != api.OK {
		t.Error("an item needs a cell at least", f, e)
	}
}

func TestFeet(t *testing.T) {
	want := []api.Foot{{Wide: 2, Deep: 1, High: 30, Weight: 500}, {Wide: 2, Deep: 1, High: 30, Weight: 500}, {Wide: 1, Deep: 1, High: 92, Weight: 420}}
	if f, e := saggar.Feet(pots(), low(), three()); !slices.Equal(f, want) || e != api.OK {
		t.Error(f, e)
	}
	if f, e := saggar.Feet(pots(), low(), nil); len(f) != 0 || e != api.OK {
		t.Error(f, e)
	}
	if f, e := saggar.Feet(pots(), low(), slices.Repeat(three()[:1], api.MaxItems)); len(f) != api.MaxItems || e != api.OK {
		t.Error(f, e)
	}
}

func TestStandsExamples(t *testing.T) {
	flat := low()
	flat.High, flat.Bears = 1, 0
	for _, s := range []api.Box{low(), flat} {
		want := []api.Stand{at(0, 0), turned(0, 0), at(0, 1), turned(0, 1), turned(0, 2), at(1, 0), at(1, 1)}
		if l, e := saggar.Stands(pots(), s, item(2, 1, 5)); !slices.Equal(l, want) || e != api.OK {
			t.Error(l, e)
		}
	}
	if l, e := saggar.Stands(pots(), low(), item(1, 1, 5)); !slices.Equal(l, []api.Stand{at(0, 0), at(0, 1)}) || e != api.OK {
		t.Error("what is as long as it is wide is not turned", l, e)
	}
	small := low()
	small.Cell = 30
	if l, e := saggar.Stands(pots(), small, item(1, 1, 0)); len(l) != 0 || e != api.OK {
		t.Error(l, e)
	}
}

// foot reads what an item needs from the chapter's definition.
func foot(w api.Wares, s api.Box, x api.Item) api.Foot {
	shape := shapeOf(w, x)
	f := api.Foot{Wide: 1, Deep: 1, High: shape.High.Hi}
	for f.Wide*s.Cell < shape.Wide.Hi+2*x.Clear {
		f.Wide++
	}
	for f.Deep*s.Cell < shape.Deep.Hi+2*x.Clear {
		f.Deep++
	}
	for i := range x.Many {
		f.Weight += shape.Weight.Hi
		if i > 0 {
			f.High += shape.High.Hi - shape.Nest
		}
	}
	return f
}

func shapeOf(w api.Wares, x api.Item) api.Shape {
	return w.Shapes[slices.IndexFunc(w.Shapes, func(s api.Shape) bool { return s.Id == x.Shape })]
}

func standsOf(s api.Box, f api.Foot) []api.Stand {
	var l []api.Stand
	for y := 0; y < s.Deep; y++ {
		for x := 0; x < s.Wide; x++ {
			if x+f.Wide <= s.Wide && y+f.Deep <= s.Deep {
				l = append(l, at(y, x))
			}
			if f.Wide != f.Deep && x+f.Deep <= s.Wide && y+f.Wide <= s.Deep {
				l = append(l, turned(y, x))
			}
		}
	}
	return l
}

func randomRange(r *rand.Rand, lo, hi int) api.Range {
	a, b := lo+r.Intn(hi-lo+1), lo+r.Intn(hi-lo+1)
	return span(min(a, b), max(a, b))
}

// job is a box with items, small enough for each packing to be looked at.
type job struct {
	w api.Wares
	s api.Box
	l []api.Item
}

// randomJob has so many items; many a one has some trouble of each kind.
func randomJob(r *rand.Rand, items int) job {
	var j job
	for i := range 3 {
		s := api.Shape{Id: 3 * (i + 1), Wide: randomRange(r, 1, 100+r.Intn(200)), Deep: randomRange(r, 1, 100+r.Intn(100)), High: randomRange(r, 10, 40), Weight: randomRange(r, 0, 100), Bears: r.Intn(400)}
		s.Nest = r.Intn(s.High.Lo + 1)
		j.w.Shapes = append(j.w.Shapes, s)
	}
	j.s = api.Box{Id: 1 + r.Intn(9), Wide: 1 + r.Intn(4), Deep: 1 + r.Intn(3), Cell: 80 + r.Intn(80), High: 60 + r.Intn(140), Bears: 200 + r.Intn(1000)}
	if r.Intn(3) == 0 {
		// Nothing but the floor is in the way, and great items.
		j.s.Wide, j.s.Deep, j.s.Cell, j.s.High, j.s.Bears = 3+r.Intn(2), 3, 100, 1000, 100000
		for i := range j.w.Shapes {
			j.w.Shapes[i].Wide.Hi = 170 + 100*r.Intn(2)
			j.w.Shapes[i].Deep.Hi = 170
			j.w.Shapes[i].Wide.Lo, j.w.Shapes[i].Deep.Lo = 1, 1
		}
		j.w.Shapes[0].Wide.Hi, j.w.Shapes[0].Deep.Hi = 10, 10
	}
	for len(j.l) < items {
		x := item(3*(1+r.Intn(3)), 1+r.Intn(3), r.Intn(15))
		if saggar.CheckItem(j.w, x) == api.OK {
			j.l = append(j.l, x)
		}
	}
	return j
}

func TestFeetAndStandsOfAnyItems(t *testing.T) {
	r := rand.New(rand.NewSource(1))
	for range 2000 {
		j := randomJob(r, r.Intn(api.MaxItems+1))
		feet, e := saggar.Feet(j.w, j.s, j.l)
		if e != api.OK || len(feet) != len(j.l) {
			t.Fatal(j, feet, e)
		}
		for i, x := range j.l {
			want := foot(j.w, j.s, x)
			if f, e := saggar.Foot(j.w, j.s, x); f != want || feet[i] != want || e != api.OK {
				t.Fatal(j, x, f, feet[i], want, e)
			}
			if l, e := saggar.Stands(j.w, j.s, x); !slices.Equal(l, standsOf(j.s, want)) || e != api.OK {
				t.Fatal(j, x, l, e)
			}
		}
	}
}
