package heat

import (
	"potbank/api"
	"potbank/limits"
)

// checkWants returns OK for wants of a valid firing.
func checkWants(f api.Firing, l []api.Want) api.Errno {
	if e := checkFiring(f); e != api.OK {
		return e
	}
	if len(l) > api.MaxWants {
		return api.ErrWant
	}
	for _, w := range l {
		if !isPlace(f.Kiln, w.Place) || !limits.IsRange(w.Heat, coldest, api.MaxMouth) {
			return api.ErrWant
		}
	}
	return api.OK
}

// tellWants returns what the readings of a sound firing tell, and what they would tell with wants.
func tellWants(f api.Firing, l []api.Want) (told, told, api.Errno) {
	if e := checkWants(f, l); e != api.OK {
		return told{}, told{}, e
	}
	t, e := tellSound(f)
	if e != api.OK {
		return told{}, told{}, e
	}
	return t, tell(f, l...), api.OK
}

// isEach reports whether each want holds in all fields that agree with what is told.
func (t told) isEach(l []api.Want) bool {
	for _, w := range l {
		if heat := t.bound(w.Place); heat.Lo < w.Heat.Lo || heat.Hi > w.Heat.Hi {
			return false
		}
	}
	return true
}

// Verdict returns the answer for the one want that the heat of a place lies within a range, for a sound firing.
func Verdict(f api.Firing, place int, want api.Range) (int, api.Errno) {
	if e := checkPlace(f, place); e != api.OK {
		return 0, e
	}
	return Together(f, []api.Want{{Place: place, Heat: want}})
}

// Together returns the answer for wants, for a sound firing.
func Together(f api.Firing, l []api.Want) (int, api.Errno) {
	t, asked, e := tellWants(f, l)
	switch {
	case e != api.OK:
		return 0, e
	case t.isEach(l):
		return api.Yes, api.OK
	case !asked.isSound():
		return api.No, api.OK
	}
	return api.Maybe, api.OK
}

// Show returns a field that agrees with a sound firing, in which all wants hold; ErrNone if there is none.
func Show(f api.Firing, l []api.Want) (api.Field, api.Errno) {
	_, asked, e := tellWants(f, l)
	if e != api.OK {
		return api.Field{}, e
	}
	if !asked.isSound() {
		return api.Field{}, api.ErrNone
	}
	return asked.field(), api.OK
}
