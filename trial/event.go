package trial

import (
	"slices"

	"potbank/api"
	"potbank/heat"
	"potbank/limits"
)

// head returns what an event has beside the numbers of its text.
func head(x api.Event) api.Event {
	y := api.Event{At: x.At, Kind: x.Kind, Day: x.Day, Known: x.Known, Of: x.Of}
	if x.Kind == api.EvRead {
		y.Reading.Source = Source(x.At)
	}
	return y
}

// numbersOf points to the numbers of an event that its text has, in their order.
func numbersOf(x *api.Event) []*int {
	switch x.Kind {
	case api.EvKiln, api.EvFall:
		return []*int{&x.Firing, &x.Mouth, &x.Place, &x.Fall.Lo, &x.Fall.Hi}
	case api.EvSet:
		return []*int{&x.Firing, &x.Place, &x.Body, &x.First, &x.Many}
	case api.EvRead:
		r := &x.Reading
		return []*int{&x.Firing, &r.Place, &r.Kind, &r.Mark, &r.Heat.Lo, &r.Heat.Hi}
	case api.EvDrawn:
		return []*int{&x.Firing}
	case api.EvSold, api.EvBroken, api.EvSecond:
		return []*int{&x.First, &x.Many}
	}
	return nil
}

// hasItsFieldsAlone reports whether the fields that events of the kind do not have are zero values.
func hasItsFieldsAlone(x api.Event) bool {
	y := head(x)
	told := numbersOf(&x)
	for i, n := range numbersOf(&y) {
		*n = *told[i]
	}
	return x == y
}

func isFiring(firing int) bool { return limits.IsBetween(firing, 1, api.MaxFiring) }

func isPlace(place int) bool { return limits.IsBetween(place, 0, api.MaxPlaces-1) }

func isFall(fall api.Range) bool { return limits.IsRange(fall, 0, api.MaxFall) }

// kilnOf returns a kiln all of whose falls are alike.
func kilnOf(mouths, places int, fall api.Range) api.Kiln {
	var k api.Kiln
	for range mouths {
		k.Falls = append(k.Falls, slices.Repeat([]api.Range{fall}, places))
	}
	return k
}

func isReading(r api.Reading) bool {
	return heat.CheckReading(kilnOf(1, api.MaxPlaces, api.Range{}), r) == api.OK
}

func isEvent(x api.Event) bool {
	if !limits.IsEntry(x.At) || !limits.IsDay(x.Known) || !hasItsFieldsAlone(x) {
		return false
	}
	if x.Kind == api.EvWithdraw {
		return x.Day == 0 && limits.IsAhead(x.Of, x.At)
	}
	return limits.IsDay(x.Day) && x.Of == api.Entry{} && isTold(x)
}

// isTold reports whether the numbers of an event that is no withdrawal are such as its kind may have.
func isTold(x api.Event) bool {
	switch x.Kind {
	case api.EvKiln:
		return isFiring(x.Firing) && limits.IsBetween(x.Mouth, 1, api.MaxMouths) && limits.IsBetween(x.Place, 1, api.MaxPlaces) && isFall(x.Fall)
	case api.EvFall:
		return isFiring(x.Firing) && limits.IsBetween(x.Mouth, 0, api.MaxMouths-1) && isPlace(x.Place) && isFall(x.Fall)
	case api.EvSet:
		return isFiring(x.Firing) && isPlace(x.Place) && limits.IsBetween(x.Body, 1, api.MaxId) && limits.ArePieces(x.First, x.Many)
	case api.EvRead:
		return isFiring(x.Firing) && isReading(x.Reading)
	case api.EvDrawn:
		return isFiring(x.Firing)
	case api.EvSold, api.EvBroken, api.EvSecond:
		return limits.ArePieces(x.First, x.Many)
	}
	return false
}
