package ware_test

import (
	"math"
	"testing"

	"potbank/api"
	"potbank/probe"
	"potbank/ware"
)

var (
	span         = probe.Span
	wrongNumbers = probe.WrongNumbers
	wrongRanges  = probe.WrongRanges
)

// clay and bowl are B and S of the chapter's examples.
func clay() api.Body {
	return api.Body{Id: 1, Shrink: span(100, 120), Loss: span(50, 60), Heat: span(1000, 1100)}
}

func bowl() api.Shape {
	return api.Shape{Id: 7, Wide: span(100, 102), Deep: span(100, 102), High: span(50, 51), Nest: 10, Weight: span(200, 210), Bears: 1000}
}

// widest has each number as great as may be, least each as small.
func widest() (api.Shape, api.Body) {
	size := span(api.MaxSize, api.MaxSize)
	s := api.Shape{Id: api.MaxId, Wide: size, Deep: size, High: size, Nest: api.MaxSize, Weight: span(api.MaxWeight, api.MaxWeight), Bears: api.MaxBears}
	b := api.Body{Id: api.MaxId, Shrink: span(api.MaxShrink, api.MaxShrink), Loss: span(api.MaxLoss, api.MaxLoss), Heat: span(api.MaxHeat, api.MaxHeat)}
	return s, b
}

func least() (api.Shape, api.Body) {
	return api.Shape{Id: 1}, api.Body{Id: 1, Heat: span(1, 1)}
}

func wrongShapes() []api.Shape {
	var l []api.Shape
	add := func(change func(s *api.Shape)) {
		s := bowl()
		change(&s)
		l = append(l, s)
	}
	for _, n := range wrongNumbers(1, api.MaxId) {
		add(func(s *api.Shape) { s.Id = n })
	}
	for _, n := range wrongNumbers(0, bowl().High.Lo) {
		add(func(s *api.Shape) { s.Nest = n })
	}
	for _, n := range wrongNumbers(0, api.MaxBears) {
		add(func(s *api.Shape) { s.Bears = n })
	}
	for _, r := range wrongRanges(0, api.MaxSize) {
		add(func(s *api.Shape) { s.Wide = r })
		add(func(s *api.Shape) { s.Deep = r })
		add(func(s *api.Shape) { s.High, s.Nest = r, 0 })
	}
	for _, r := range wrongRanges(0, api.MaxWeight) {
		add(func(s *api.Shape) { s.Weight = r })
	}
	return append(l, api.Shape{})
}

func wrongBodies() []api.Body {
	var l []api.Body
	add := func(change func(b *api.Body)) {
		b := clay()
		change(&b)
		l = append(l, b)
	}
	for _, n := range wrongNumbers(1, api.MaxId) {
		add(func(b *api.Body) { b.Id = n })
	}
	for _, r := range wrongRanges(0, api.MaxShrink) {
		add(func(b *api.Body) { b.Shrink = r })
	}
	for _, r := range wrongRanges(0, api.MaxLoss) {
		add(func(b *api.Body) { b.Loss = r })
	}
	for _, r := range wrongRanges(1, api.MaxHeat) {
		add(func(b *api.Body) { b.Heat = r })
	}
	return append(l, api.Body{})
}

// manyWares has so many shapes and bodies, with the Ids 10, 20 and so on.
func manyWares(shapes, bodies int) api.Wares {
	var w api.Wares
	for i := range shapes {
		s := bowl()
		s.Id, s.Bears = 10*(i+1), 1000+i
		w.Shapes = append(w.Shapes, s)
	}
	for i := range bodies {
		b := clay()
		b.Id, b.Shrink.Hi = 10*(i+1), 120+i
		w.Bodies = append(w.Bodies, b)
	}
	return w
}

func wrongWares() []api.Wares {
	l := []api.Wares{
		manyWares(api.MaxShapes+1, 0),
		manyWares(0, api.MaxBodies+1),
		{Shapes: []api.Shape{bowl(), bowl()}},
		{Bodies: []api.Body{clay(), clay()}},
	}
	falling := manyWares(2, 2)
	falling.Shapes[1].Id = 9
	l = append(l, falling)
	falling = manyWares(2, 2)
	falling.Bodies[1].Id = 9
	l = append(l, falling)
	for _, s := range wrongShapes() {
		l = append(l, api.Wares{Shapes: []api.Shape{s}})
	}
	for _, b := range wrongBodies() {
		l = append(l, api.Wares{Bodies: []api.Body{b}})
	}
	last := manyWares(3, 3)
	last.Bodies[2].Heat = span(0, 5)
	return append(l, last)
}

func TestCheckOfWhatIsValid(t *testing.T) {
	bigShape, bigBody := widest()
	smallShape, smallBody := least()
	for _, s := range []api.Shape{bowl(), bigShape, smallShape} {
		if e := ware.CheckShape(s); e != api.OK {
			t.Error(s, e)
		}
	}
	for _, b := range []api.Body{clay(), bigBody, smallBody} {
		if e := ware.CheckBody(b); e != api.OK {
			t.Error(b, e)
		}
	}
	for _, w := range []api.Wares{
		{},
		{Shapes: []api.Shape{}, Bodies: []api.Body{}},
		manyWares(api.MaxShapes, api.MaxBodies),
		{Shapes: []api.Shape{smallShape, bowl(), bigShape}, Bodies: []api.Body{smallBody, bigBody}},
	} {
		if e := ware.Check(w); e != api.OK {
			t.Error(w, e)
		}
	}
}

func TestCheckOfWhatIsNotValid(t *testing.T) {
	for _, s := range wrongShapes() {
		if e := ware.CheckShape(s); e != api.ErrShape {
			t.Error(s, e)
		}
	}
	for _, b := range wrongBodies() {
		if e := ware.CheckBody(b); e != api.ErrBody {
			t.Error(b, e)
		}
	}
	for _, w := range wrongWares() {
		if e := ware.Check(w); e != api.ErrWares {
			t.Error(w, e)
		}
	}
}

func TestNestIsAtMostTheLowestHeight(t *testing.T) {
	s := bowl()
	s.Nest = s.High.Lo
	if e := ware.CheckShape(s); e != api.OK {
		t.Error(e)
	}
	s.Nest = s.High.Hi
	if e := ware.CheckShape(s); e != api.ErrShape {
		t.Error(e)
	}
}

func TestShapeAndBodyById(t *testing.T) {
	w := manyWares(api.MaxShapes, api.MaxBodies)
	for _, want := range w.Shapes {
		if s, e := ware.Shape(w, want.Id); s != want || e != api.OK {
			t.Error(want.Id, s, e)
		}
	}
	for _, want := range w.Bodies {
		if b, e := ware.Body(w, want.Id); b != want || e != api.OK {
			t.Error(want.Id, b, e)
		}
	}
	for _, id := range []int{0, 5, 15, 401, -10, math.MinInt, math.MaxInt} {
		if s, e := ware.Shape(w, id); s != (api.Shape{}) || e != api.ErrNone {
			t.Error(id, s, e)
		}
		if b, e := ware.Body(w, id); b != (api.Body{}) || e != api.ErrNone {
			t.Error(id, b, e)
		}
	}
	if _, e := ware.Shape(api.Wares{}, 7); e != api.ErrNone {
		t.Error(e)
	}
	if b, e := ware.Body(w, 130); b != (api.Body{}) || e != api.ErrNone {
		t.Error("a shape's Id is not a body's", b, e)
	}
}

func TestShapeAndBodyOfWrongWares(t *testing.T) {
	for _, w := range wrongWares() {
		for _, id := range []int{-1, 7, 10} {
			if s, e := ware.Shape(w, id); s != (api.Shape{}) || e != api.ErrWares {
				t.Error(id, s, e)
			}
			if b, e := ware.Body(w, id); b != (api.Body{}) || e != api.ErrWares {
				t.Error(id, b, e)
			}
		}
	}
}
