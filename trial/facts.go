package trial

import (
	"cmp"
	"slices"

	"potbank/api"
	"potbank/heat"
)

// never is the day of what did not happen.
const never = -1

// batches are the firings that are there, by their numbers.
type batches struct{ laid map[int]api.Batch }

// facts are what is known on a day.
type facts struct {
	batches
	set, sold, broken, seconds []api.Event // those that did something; no two of one list share a piece
	void                       []api.Entry
}

// deeds tells by the kind of an event what it does; false of a void one, which does nothing.
func deeds() map[int]func(*facts, api.Event) bool {
	return map[int]func(*facts, api.Event) bool{
		api.EvKiln:   (*facts).layKiln,
		api.EvFall:   (*facts).changeFall,
		api.EvSet:    (*facts).setPieces,
		api.EvRead:   (*facts).addReading,
		api.EvDrawn:  (*facts).draw,
		api.EvSold:   (*facts).sellPieces,
		api.EvBroken: (*facts).breakPieces,
		api.EvSecond: (*facts).markSeconds,
	}
}

// factsOf returns what is known on a day from a valid list of events.
func factsOf(l []api.Event, known int) facts {
	f := facts{batches: batches{laid: map[int]api.Batch{}}}
	does := deeds()
	for x := range happened(l, known) {
		if !does[x.Kind](&f, x) {
			f.void = append(f.void, x.At)
		}
	}
	return f
}

func (f *facts) layKiln(x api.Event) bool {
	if _, ok := f.laid[x.Firing]; ok {
		return false
	}
	f.laid[x.Firing] = api.Batch{Id: x.Firing, Drawn: never, Firing: api.Firing{Kiln: kilnOf(x.Mouth, x.Place, x.Fall)}}
	return true
}

func (f *facts) changeFall(x api.Event) bool {
	// A firing that is not there has no mouths and no places.
	kiln := f.laid[x.Firing].Firing.Kiln
	if x.Mouth >= len(kiln.Falls) || x.Place >= heat.Places(kiln) {
		return false
	}
	kiln.Falls[x.Mouth][x.Place] = x.Fall
	return true
}

func (f *facts) setPieces(x api.Event) bool {
	b, ok := f.laid[x.Firing]
	if !ok || x.Place >= heat.Places(b.Firing.Kiln) || b.Drawn != never {
		return false
	}
	return note(&f.set, x)
}

func (f *facts) addReading(x api.Event) bool {
	b, ok := f.laid[x.Firing]
	if !ok {
		return false
	}
	firing, e := heat.With(b.Firing, x.Reading)
	if e != api.OK {
		return false
	}
	b.Firing = firing
	f.laid[x.Firing] = b
	return true
}

func (f *facts) draw(x api.Event) bool {
	b, ok := f.laid[x.Firing]
	if !ok || b.Drawn != never {
		return false
	}
	b.Drawn = x.Day
	f.laid[x.Firing] = b
	return true
}

func (f *facts) sellPieces(x api.Event) bool { return note(&f.sold, x) }

func (f *facts) breakPieces(x api.Event) bool { return note(&f.broken, x) }

func (f *facts) markSeconds(x api.Event) bool { return note(&f.seconds, x) }

// note adds an event to a list; false if one of its pieces is in the list already.
func note(l *[]api.Event, x api.Event) bool {
	if slices.ContainsFunc(*l, func(y api.Event) bool { return doShare(x, y) }) {
		return false
	}
	*l = append(*l, x)
	return true
}

// doShare reports whether two events have a piece in common.
func doShare(x, y api.Event) bool {
	return x.First < y.First+y.Many && y.First < x.First+x.Many
}

// eventOf returns the event of a list that has a piece.
func eventOf(l []api.Event, piece int) (api.Event, bool) {
	for _, x := range l {
		if x.First <= piece && piece < x.First+x.Many {
			return x, true
		}
	}
	return api.Event{}, false
}

// dayOf returns the day of the event of a list that has a piece.
func dayOf(l []api.Event, piece int) int {
	if x, ok := eventOf(l, piece); ok {
		return x.Day
	}
	return never
}

// piece returns what is known of a piece.
func (f facts) piece(no int) api.Piece {
	p := api.Piece{No: no, Broken: dayOf(f.broken, no), Drawn: never, Sold: dayOf(f.sold, no)}
	_, p.Second = eventOf(f.seconds, no)
	if x, ok := eventOf(f.set, no); ok {
		p.Firing, p.Place, p.Body = x.Firing, x.Place, x.Body
		p.Drawn = f.laid[x.Firing].Drawn
	}
	return p
}

// setIn returns the events that set the pieces of a firing, by their pieces.
func (f facts) setIn(firing int) []api.Event {
	var l []api.Event
	for _, x := range f.set {
		if x.Firing == firing {
			l = append(l, x)
		}
	}
	slices.SortFunc(l, func(x, y api.Event) int { return cmp.Compare(x.First, y.First) })
	return l
}

// piecesOf returns the pieces of an event, rising.
func piecesOf(x api.Event) []int {
	l := make([]int, x.Many)
	for i := range l {
		l[i] = x.First + i
	}
	return l
}
