package ware_test

import (
	"math/rand"
	"testing"

	"potbank/api"
	"potbank/ware"
)

// Exact lengths are kept in parts of 1000, so that the oracles below need no fractions.

// holds reports whether a number of parts lies within a range.
func holds(r api.Range, parts int) bool { return 1000*r.Lo <= parts && parts <= 1000*r.Hi }

// isNear reports whether a number and a number of parts are less than 1 apart.
func isNear(n, parts int) bool { return -1000 < 1000*n-parts && 1000*n-parts < 1000 }

func randomRange(r *rand.Rand, lo, hi int) api.Range {
	a, b := lo+r.Intn(hi-lo+1), lo+r.Intn(hi-lo+1)
	return span(min(a, b), max(a, b))
}

func randomBody(r *rand.Rand) api.Body {
	return api.Body{Id: 1 + r.Intn(api.MaxId), Shrink: randomRange(r, 0, api.MaxShrink), Loss: randomRange(r, 0, api.MaxLoss), Heat: randomRange(r, 1, api.MaxHeat)}
}

func randomShape(r *rand.Rand) api.Shape {
	s := api.Shape{
		Id:     1 + r.Intn(api.MaxId),
		Wide:   randomRange(r, 0, api.MaxSize),
		Deep:   randomRange(r, 0, api.MaxSize),
		High:   randomRange(r, 0, api.MaxSize),
		Weight: randomRange(r, 0, api.MaxWeight),
		Bears:  r.Intn(api.MaxBears + 1),
	}
	s.Nest = r.Intn(s.High.Lo + 1)
	return s
}

func TestShrunkAndBurntExamples(t *testing.T) {
	if r, e := ware.Shrunk(clay(), span(100, 102)); r != span(88, 92) || e != api.OK {
		t.Error(r, e)
	}
	if r, e := ware.Burnt(clay(), span(200, 210)); r != span(188, 200) || e != api.OK {
		t.Error(r, e)
	}
	none := api.Body{Id: 1, Heat: span(1, 1)}
	if r, e := ware.Shrunk(none, span(0, api.MaxSize)); r != span(0, api.MaxSize) || e != api.OK {
		t.Error("no shrinkage changes nothing", r, e)
	}
	if r, e := ware.Burnt(none, span(0, api.MaxWeight)); r != span(0, api.MaxWeight) || e != api.OK {
		t.Error("no loss changes nothing", r, e)
	}
	_, b := widest()
	if r, e := ware.Shrunk(b, span(1, api.MaxSize)); r != span(0, 1600) || e != api.OK {
		t.Error(r, e)
	}
	if r, e := ware.Burnt(b, span(1, api.MaxWeight)); r != span(0, 70000) || e != api.OK {
		t.Error(r, e)
	}
}

// checkTurned holds a range that became of wet against what each number of lost makes of the ends of wet (P1.2).
func checkTurned(t *testing.T, wet, lost, got api.Range) {
	t.Helper()
	lowest, highest := wet.Lo*1000, 0
	for s := lost.Lo; s <= lost.Hi; s++ {
		for _, w := range []int{wet.Lo, (wet.Lo + wet.Hi) / 2, wet.Hi} {
			parts := w * (1000 - s)
			if !holds(got, parts) {
				t.Fatal(wet, lost, got, "lacks", parts)
			}
			lowest, highest = min(lowest, parts), max(highest, parts)
		}
	}
	if !isNear(got.Lo, lowest) || !isNear(got.Hi, highest) {
		t.Fatal(wet, lost, got, "is wider than", lowest, highest)
	}
}

func TestFiredLengthsAndWeightsLieWithin(t *testing.T) {
	r := rand.New(rand.NewSource(1))
	for range 3000 {
		b := randomBody(r)
		wet := randomRange(r, 0, api.MaxSize)
		got, e := ware.Shrunk(b, wet)
		if e != api.OK {
			t.Fatal(b, wet, e)
		}
		checkTurned(t, wet, b.Shrink, got)
		wet = randomRange(r, 0, api.MaxWeight)
		if got, e = ware.Burnt(b, wet); e != api.OK {
			t.Fatal(b, wet, e)
		}
		checkTurned(t, wet, b.Loss, got)
	}
}

func TestErrorsOfShrunkBurntAndMould(t *testing.T) {
	for _, call := range []struct {
		name string
		most int
		turn func(api.Body, api.Range) (api.Range, api.Errno)
	}{
		{"Shrunk", api.MaxSize, ware.Shrunk},
		{"Burnt", api.MaxWeight, ware.Burnt},
		{"Mould", api.MaxSize, ware.Mould},
	} {
		for _, wet := range wrongRanges(0, call.most) {
			if r, e := call.turn(clay(), wet); r != (api.Range{}) || e != api.ErrArg {
				t.Error(call.name, wet, r, e)
			}
			if r, e := call.turn(api.Body{}, wet); r != (api.Range{}) || e != api.ErrBody {
				t.Error(call.name, wet, r, e, "the body comes first")
			}
		}
		for _, b := range wrongBodies() {
			if r, e := call.turn(b, span(1, 2)); r != (api.Range{}) || e != api.ErrBody {
				t.Error(call.name, b, r, e)
			}
		}
	}
}

func TestMouldExamples(t *testing.T) {
	if r, e := ware.Mould(clay(), span(88, 92)); r != span(100, 102) || e != api.OK {
		t.Error(r, e)
	}
	if r, e := ware.Mould(clay(), span(90, 90)); r != (api.Range{}) || e != api.ErrNone {
		t.Error(r, e)
	}
	if r, e := ware.Mould(clay(), span(0, 0)); r != span(0, 0) || e != api.OK {
		t.Error("no length shrinks to none", r, e)
	}
	if r, e := ware.Mould(clay(), span(0, api.MaxSize)); r != span(0, api.MaxSize) || e != api.OK {
		t.Error("a wet length is at most MaxSize", r, e)
	}
	if r, e := ware.Mould(clay(), span(1900, api.MaxSize)); r != (api.Range{}) || e != api.ErrNone {
		t.Error("no wet length is long enough", r, e)
	}
}

// isMould reports whether a wet length becomes one within dry for each number of shrink, rounded as the chapter says.
func isMould(w int, shrink, dry api.Range) bool {
	return w*(1000-shrink.Hi)/1000 >= dry.Lo && (w*(1000-shrink.Lo)+999)/1000 <= dry.Hi
}

func TestMouldHasExactlyTheSureLengths(t *testing.T) {
	r := rand.New(rand.NewSource(2))
	found, missed := 0, 0
	for range 1500 {
		b := randomBody(r)
		if r.Intn(2) == 0 {
			b.Shrink.Hi = min(b.Shrink.Lo+r.Intn(10), api.MaxShrink)
		}
		dry := randomRange(r, 0, api.MaxSize)
		if r.Intn(2) == 0 {
			dry.Hi = min(dry.Lo+r.Intn(20), api.MaxSize)
		}
		got, e := ware.Mould(b, dry)
		many := 0
		for w := 0; w <= api.MaxSize; w++ {
			is := isMould(w, b.Shrink, dry)
			if is != (e == api.OK && got.Lo <= w && w <= got.Hi) {
				t.Fatal(b.Shrink, dry, got, e, w)
			}
			if is {
				many++
			}
		}
		if many == 0 {
			missed++
			if got != (api.Range{}) || e != api.ErrNone {
				t.Fatal(b.Shrink, dry, got, e)
			}
			continue
		}
		found++
		for s := b.Shrink.Lo; s <= b.Shrink.Hi; s++ {
			if !holds(dry, got.Lo*(1000-s)) || !holds(dry, got.Hi*(1000-s)) {
				t.Fatal(b.Shrink, dry, got, s)
			}
		}
	}
	if found < 100 || missed < 100 {
		t.Error("the cases are lopsided", found, missed)
	}
}

func TestFiredExample(t *testing.T) {
	want := api.Shape{Id: 7, Wide: span(88, 92), Deep: span(88, 92), High: span(44, 46), Nest: 8, Weight: span(188, 200), Bears: 1000}
	if s, e := ware.Fired(bowl(), clay()); s != want || e != api.OK {
		t.Error(s, e)
	}
}

func TestFiredShapesAreValid(t *testing.T) {
	r := rand.New(rand.NewSource(3))
	for i := range 3000 {
		s, b := randomShape(r), randomBody(r)
		if i%2 == 0 {
			s.Nest = s.High.Lo
		}
		got, e := ware.Fired(s, b)
		if e != api.OK || ware.CheckShape(got) != api.OK {
			t.Fatal(s, b, got, e)
		}
		want := api.Shape{Id: s.Id, Nest: s.Nest * (1000 - b.Shrink.Hi) / 1000, Bears: s.Bears}
		want.Wide, _ = ware.Shrunk(b, s.Wide)
		want.Deep, _ = ware.Shrunk(b, s.Deep)
		want.High, _ = ware.Shrunk(b, s.High)
		want.Weight, _ = ware.Burnt(b, s.Weight)
		if got != want {
			t.Fatal(s, b, got, want)
		}
	}
}

func TestErrorsOfFired(t *testing.T) {
	for _, s := range wrongShapes() {
		for _, b := range []api.Body{clay(), {}} {
			if got, e := ware.Fired(s, b); got != (api.Shape{}) || e != api.ErrShape {
				t.Error(s, b, got, e)
			}
		}
	}
	for _, b := range wrongBodies() {
		if got, e := ware.Fired(bowl(), b); got != (api.Shape{}) || e != api.ErrBody {
			t.Error(b, got, e)
		}
	}
}
