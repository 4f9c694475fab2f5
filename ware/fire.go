package ware

import (
	"potbank/api"
	"potbank/limits"
)

// whole is the whole of which Shrink and Loss are parts.
const whole = 1000

// roundedUp divides numbers that are not below 0; by is above 0.
func roundedUp(n, by int) int { return (n + by - 1) / by }

// turner returns what turns a wet range into what it becomes where so many parts of it are lost.
func turner(lost api.Range) func(api.Range) api.Range {
	least, most := whole-lost.Hi, whole-lost.Lo
	return func(wet api.Range) api.Range {
		return api.Range{Lo: wet.Lo * least / whole, Hi: roundedUp(wet.Hi*most, whole)}
	}
}

// Shrunk returns what a range of wet lengths becomes.
func Shrunk(b api.Body, wet api.Range) (api.Range, api.Errno) {
	if e := CheckBody(b); e != api.OK {
		return api.Range{}, e
	}
	if !limits.IsRange(wet, 0, api.MaxSize) {
		return api.Range{}, api.ErrArg
	}
	return turner(b.Shrink)(wet), api.OK
}

// Burnt returns what a range of wet weights becomes.
func Burnt(b api.Body, wet api.Range) (api.Range, api.Errno) {
	if e := CheckBody(b); e != api.OK {
		return api.Range{}, e
	}
	if !limits.IsRange(wet, 0, api.MaxWeight) {
		return api.Range{}, api.ErrArg
	}
	return turner(b.Loss)(wet), api.OK
}

// Mould returns the wet lengths each of which surely becomes a length within dry; ErrNone if there are none.
func Mould(b api.Body, dry api.Range) (api.Range, api.Errno) {
	if e := CheckBody(b); e != api.OK {
		return api.Range{}, e
	}
	if !limits.IsRange(dry, 0, api.MaxSize) {
		return api.Range{}, api.ErrArg
	}
	// The ends of dry are whole, so that what a length becomes lies within dry before it is rounded exactly if it does afterwards.
	wet := api.Range{
		Lo: roundedUp(dry.Lo*whole, whole-b.Shrink.Hi),
		Hi: min(dry.Hi*whole/(whole-b.Shrink.Lo), api.MaxSize),
	}
	if isEmpty(wet) {
		return api.Range{}, api.ErrNone
	}
	return wet, api.OK
}

// Fired returns a shape of a body as it comes from the kiln.
func Fired(s api.Shape, b api.Body) (api.Shape, api.Errno) {
	if e := CheckShape(s); e != api.OK {
		return api.Shape{}, e
	}
	if e := CheckBody(b); e != api.OK {
		return api.Shape{}, e
	}
	length, weight := turner(b.Shrink), turner(b.Loss)
	s.Wide, s.Deep, s.High = length(s.Wide), length(s.Deep), length(s.High)
	s.Weight = weight(s.Weight)
	// Nest is rounded as High.Lo is: it is no more than that still.
	s.Nest = s.Nest * (whole - b.Shrink.Hi) / whole
	return s, api.OK
}
