// Package ware is layer 1: shapes and clay bodies, what they become in the kiln, piles, trials, and their texts. See shared/doc/01-ware.md.
package ware

import (
	"potbank/api"
	"potbank/limits"
)

// entry is what wares keep by its Id.
type entry interface {
	id() int
	valid() bool
}

// shape and body are entries: package api gives their types no methods.
type (
	shape api.Shape
	body  api.Body
)

func asShape(s api.Shape) shape { return shape(s) }

func asBody(b api.Body) body { return body(b) }

func (s shape) id() int { return s.Id }

func (b body) id() int { return b.Id }

func (s shape) valid() bool {
	return limits.IsBetween(s.Id, 1, api.MaxId) &&
		limits.IsRange(s.Wide, 0, api.MaxSize) &&
		limits.IsRange(s.Deep, 0, api.MaxSize) &&
		limits.IsRange(s.High, 0, api.MaxSize) &&
		limits.IsBetween(s.Nest, 0, s.High.Lo) &&
		limits.IsRange(s.Weight, 0, api.MaxWeight) &&
		limits.IsBetween(s.Bears, 0, api.MaxBears)
}

func (b body) valid() bool {
	return limits.IsBetween(b.Id, 1, api.MaxId) &&
		limits.IsRange(b.Shrink, 0, api.MaxShrink) &&
		limits.IsRange(b.Loss, 0, api.MaxLoss) &&
		limits.IsRange(b.Heat, 1, api.MaxHeat)
}

// areKept reports whether a list has at most so many entries, all of them valid, by rising Ids.
func areKept[T any, E entry](l []T, as func(T) E, most int) bool {
	if len(l) > most {
		return false
	}
	last := 0
	for _, x := range l {
		e := as(x)
		if !e.valid() || e.id() <= last {
			return false
		}
		last = e.id()
	}
	return true
}

// find returns the one of a list that has the Id.
func find[T any, E entry](l []T, as func(T) E, id int) (T, api.Errno) {
	for _, x := range l {
		if as(x).id() == id {
			return x, api.OK
		}
	}
	var none T
	return none, api.ErrNone
}

// CheckShape returns OK for a valid shape, and otherwise ErrShape.
func CheckShape(s api.Shape) api.Errno {
	if !shape(s).valid() {
		return api.ErrShape
	}
	return api.OK
}

// CheckBody returns OK for a valid body, and otherwise ErrBody.
func CheckBody(b api.Body) api.Errno {
	if !body(b).valid() {
		return api.ErrBody
	}
	return api.OK
}

// Check returns OK for valid wares, and otherwise ErrWares.
func Check(w api.Wares) api.Errno {
	if !areKept(w.Shapes, asShape, api.MaxShapes) || !areKept(w.Bodies, asBody, api.MaxBodies) {
		return api.ErrWares
	}
	return api.OK
}

// Shape returns the shape with the Id; ErrNone if there is none.
func Shape(w api.Wares, id int) (api.Shape, api.Errno) {
	if e := Check(w); e != api.OK {
		return api.Shape{}, e
	}
	return find(w.Shapes, asShape, id)
}

// Body returns the body with the Id; ErrNone if there is none.
func Body(w api.Wares, id int) (api.Body, api.Errno) {
	if e := Check(w); e != api.OK {
		return api.Body{}, e
	}
	return find(w.Bodies, asBody, id)
}
