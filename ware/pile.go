package ware

import (
	"potbank/api"
	"potbank/limits"
)

func checkPile(s api.Shape, many int) api.Errno {
	if e := CheckShape(s); e != api.OK {
		return e
	}
	if !limits.IsBetween(many, 1, api.MaxPile) {
		return api.ErrPile
	}
	return api.OK
}

func height(s api.Shape, many int) api.Range {
	more := many - 1
	return api.Range{
		Lo: s.High.Lo + more*(s.High.Lo-s.Nest),
		Hi: s.High.Hi + more*(s.High.Hi-s.Nest),
	}
}

// stands asks for the lowest piece alone: it has the most weight above it.
func stands(s api.Shape, many int) bool {
	return (many-1)*s.Weight.Hi <= s.Bears
}

// Height returns the height of a pile.
func Height(s api.Shape, many int) (api.Range, api.Errno) {
	if e := checkPile(s, many); e != api.OK {
		return api.Range{}, e
	}
	return height(s, many), api.OK
}

// Load returns the weight above a piece of a pile, by its index; the lowest one has index 0.
func Load(s api.Shape, many, at int) (api.Range, api.Errno) {
	if e := checkPile(s, many); e != api.OK {
		return api.Range{}, e
	}
	if !limits.IsBetween(at, 0, many-1) {
		return api.Range{}, api.ErrArg
	}
	above := many - 1 - at
	return api.Range{Lo: above * s.Weight.Lo, Hi: above * s.Weight.Hi}, api.OK
}

// Stands reports whether a pile stands, whatever its pieces weigh.
func Stands(s api.Shape, many int) (bool, api.Errno) {
	if e := checkPile(s, many); e != api.OK {
		return false, e
	}
	return stands(s, many), api.OK
}

// Most returns the number of pieces of the greatest pile that stands, and is surely at most so high; ErrNone if there is none.
func Most(s api.Shape, high int) (int, api.Errno) {
	if e := CheckShape(s); e != api.OK {
		return 0, e
	}
	for many := api.MaxPile; many > 0; many-- {
		if stands(s, many) && height(s, many).Hi <= high {
			return many, api.OK
		}
	}
	return 0, api.ErrNone
}
