package pay

import (
	"slices"

	"potbank/api"
	"potbank/limits"
)

// due is what the master pays the maker of a piece, and what the fireman pays the master.
type due struct{ maker, fireman int }

// inForce returns the custom of a trade that is in force on a day; false if there is none.
func inForce(customs []api.Custom, trade, day int) (api.Custom, bool) {
	for _, c := range slices.Backward(customs) {
		if c.Trade == trade && c.From <= day {
			return c, true
		}
	}
	return api.Custom{}, false
}

// worth returns what a piece is worth to its maker; by no custom, which has no Basis, nothing.
func worth(c api.Custom, grade, outcome int) int {
	rate := c.Rates[grade]
	switch {
	case c.Basis == api.ByPiece,
		c.Basis == api.ByHand && outcome != api.Broken,
		c.Basis == api.ByOven && outcome == api.Good:
		return rate
	case c.Basis == api.ByOven && outcome == api.Second:
		return rate * c.Second / whole
	}
	return 0
}

// dueOf returns the due of a piece of a grade.
func dueOf(c api.Custom, grade, outcome int) due {
	n := worth(c, grade, outcome)
	if outcome == api.Waste {
		switch c.Bears {
		case api.BearsMaker:
			return due{}
		case api.BearsFireman:
			return due{maker: n, fireman: n}
		}
	}
	return due{maker: n}
}

// InForce returns the custom of a trade that is in force on a day; ErrForce if there is none.
func InForce(s api.Shop, trade, day int) (api.Custom, api.Errno) {
	if e := checkNumber(s, isTrade(trade), day); e != api.OK {
		return api.Custom{}, e
	}
	c, ok := inForce(s.Customs, trade, day)
	return c, limits.Unless(ok, api.ErrForce)
}
