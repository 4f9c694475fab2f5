// Package ware is layer 1: shapes and clay bodies, what they become in the kiln, piles, trials, and their texts. See shared/doc/01-ware.md.
package ware

import "potbank/api"

// entry is what wares keep by its Id.
type entry interface {
	id() int
	valid() bool
}

// shape and body are entries: package api gives their types no methods.
type (
	shape api.Shape
	body  api.Body
)

func asShape(s api.Shape) shape { return shape(s) }

func asBody(b api.Body) body { return body(b) }

func (s shape) id() int { return s.Id }

func (b body) id() int { return b.Id }

func (s shape) valid() bool {
	return isBetween(s.Id, 1, api.MaxId) &&
		isWithin(s.Wide, 0, api.MaxSize) &&
		isWithin(s.Deep, 0, api.MaxSize) &&
		isWithin(s.High, 0, api.MaxSize) &&
		isBetween(s.Nest, 0, s.High.Lo) &&
		isWithin(s.Weight, 0, api.MaxWeight) &&
		isBetween(s.Bears, 0, api.MaxBears)
}

func (b body) valid() bool {
	return isBetween(b.Id, 1, api.MaxId) &&
		isWithin(b.Shrink, 0, api.MaxShrink) &&
		isWithin(b.Loss, 0, api.MaxLoss) &&
		isWithin(b.Heat, 1, api.MaxHeat)
}

func isBetween(n, lo, hi int) bool { return lo <= n && n <= hi }

// isWithin reports whether a range has a number, and all of its numbers are from lo to hi.
func isWithin(r api.Range, lo, hi int) bool {
	return lo <= r.Lo && r.Lo <= r.Hi && r.Hi <= hi
}

// areKept reports whether a list has at most so many entries, all of them valid, by rising Ids.
func areKept[T any, E entry](l []T, as func(T) E, most int) bool {
	if len(l) > most {
		return false
	}
	last := 0
	for _, x := range l {
		e := as(x)
		if !e.valid() || e.id() <= last {
			return false
		}
		last = e.id()
	}
	return true
}

// find returns the one of a list that has the Id.
func find[T any, E entry](l []T, as func(T) E, id int) (T, api.Errno) {
	for _, x := range l {
		if as(x).id() == id {
			return x, api.OK
		}
	}
	var none T
	return none, api.ErrNone
}

// CheckShape returns OK for a valid shape, and otherwise ErrShape.
func CheckShape(s api.Shape) api.Errno {
	if !shape(s).valid() {
		return api.ErrShape
	}
	return api.OK
}

// CheckBody returns OK for a valid body, and otherwise ErrBody.
func CheckBody(b api.Body) api.Errno {
	if !body(b).valid() {
		return api.ErrBody
	}
	return api.OK
}

// Check returns OK for valid wares, and otherwise ErrWares.
func Check(w api.Wares) api.Errno {
	if !areKept(w.Shapes, asShape, api.MaxShapes) || !areKept(w.Bodies, asBody, api.MaxBodies) {
		return api.ErrWares
	}
	return api.OK
}

// Shape returns the shape with the Id; ErrNone if there is none.
func Shape(w api.Wares, id int) (api.Shape, api.Errno) {
	if e := Check(w); e != api.OK {
		return api.Shape{}, e
	}
	return find(w.Shapes, asShape, id)
}

// Body returns the body with the Id; ErrNone if there is none.
func Body(w api.Wares, id int) (api.Body, api.Errno) {
	if e := Check(w); e != api.OK {
		return api.Body{}, e
	}
	return find(w.Bodies, asBody, id)
}
