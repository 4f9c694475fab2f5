package trial_test

import (
	"math/rand"
	"slices"

	"potbank/api"
	"potbank/heat"
)

// someEvents returns a random list of events of so many houses, with up to so many events of each, that are about few firings, places and pieces.
func someEvents(r *rand.Rand, houses, each int) []api.Event {
	var l []api.Event
	for house := range houses {
		for no := range each {
			if r.Intn(8) > 0 {
				l = append(l, at(house, no, someEvent(r, no)))
			}
		}
	}
	if len(l) == 0 || r.Intn(8) > 0 {
		l = slices.DeleteFunc(l, func(x api.Event) bool { return x.At == entry(0, 0) })
		l = slices.Insert(l, 0, at(0, 0, kiln(0, r.Intn(3), 1, 1+r.Intn(2), 1+r.Intn(3), 100, 100+r.Intn(100))))
	}
	return l
}

// lastDay is the last one on which something of someEvents is or gets known.
const lastDay = 8

// lastPiece is the last one of someEvents.
const lastPiece = 12

func someEvent(r *rand.Rand, no int) api.Event {
	day, known, firing, place := r.Intn(6), r.Intn(lastDay+1), 1+r.Intn(3)/2, r.Intn(1+r.Intn(3))
	first := 1 + r.Intn(9)
	count := 1 + r.Intn(lastPiece-first)%4
	switch r.Intn(16) {
	case 0, 1:
		if no > 0 {
			return withdraw(known, r.Intn(no))
		}
		return kiln(r.Intn(2), known, firing, 1, 2, 100, 200)
	case 2:
		return kiln(r.Intn(3), known, firing, 1+r.Intn(2), 1+r.Intn(3), 100, 100+r.Intn(100))
	case 3:
		lo := r.Intn(300)
		return fall(day, known, firing, r.Intn(2), place, lo, lo+r.Intn(100))
	case 4, 5, 6, 7, 8:
		return set(1+r.Intn(5), r.Intn(4), firing, place, 1+r.Intn(10)/3, first, count)
	case 9, 10, 11:
		return someReading(r, day, known, firing, place)
	case 12:
		return drawn(3+r.Intn(4), known, firing)
	case 13, 14:
		return sold(day, known, first, count)
	}
	return pieces(api.EvBroken+r.Intn(2), day, known, first, count)
}

func someReading(r *rand.Rand, day, known, firing, place int) api.Event {
	mark := 850 + r.Intn(300)
	switch r.Intn(4) {
	case 0:
		return bent(day, known, firing, place, mark-100)
	case 1:
		return standing(day, known, firing, place, mark+100)
	}
	return ring(day, known, firing, place, mark, mark+10+r.Intn(60))
}

// wares returns the bodies of someEvents, but the last one.
func wares() api.Wares {
	body := func(id, lo, hi int) api.Body { return api.Body{Id: id, Shrink: span(100, 120), Heat: span(lo, hi)} }
	return api.Wares{Bodies: []api.Body{body(1, 1000, 1100), body(2, 900, 1000), body(3, 1050, 1200)}}
}

// stands is the chapter's definition of what stands.
func stands(l []api.Event, x api.Event, day int) bool {
	return x.Known <= day && !slices.ContainsFunc(l, func(y api.Event) bool {
		return y.Kind == api.EvWithdraw && y.Of == x.At && stands(l, y, day)
	})
}

// place is where a piece stands, and of what body it is.
type place struct{ firing, place, body int }

// world is what is known on a day, kept piece by piece.
type world struct {
	batches                  map[int]api.Batch
	set                      map[int]place
	sold, broken, secondDays map[int]int
	void                     []api.Entry
}

func worldOf(l []api.Event, day int) world {
	w := world{map[int]api.Batch{}, map[int]place{}, map[int]int{}, map[int]int{}, map[int]int{}, nil}
	for d := range 20 { // nothing of these tests happens later
		for _, x := range l {
			if x.Day == d && x.Kind != api.EvWithdraw && stands(l, x, day) && !w.apply(x) {
				w.void = append(w.void, x.At)
			}
		}
	}
	slices.SortFunc(w.void, func(x, y api.Entry) int { return (x.House-y.House)*10000 + x.No - y.No })
	return w
}

// put notes the pieces of an event in a map, unless one of them is there.
func put[T any](of map[int]T, x api.Event, v T) bool {
	for i := range x.Many {
		if _, ok := of[x.First+i]; ok {
			return false
		}
	}
	for i := range x.Many {
		of[x.First+i] = v
	}
	return true
}

// apply tells false of a void event.
func (w world) apply(x api.Event) bool {
	b, isThere := w.batches[x.Firing]
	k := b.Firing.Kiln
	switch x.Kind {
	case api.EvKiln:
		if isThere {
			return false
		}
		for range x.Mouth {
			k.Falls = append(k.Falls, slices.Repeat([]api.Range{x.Fall}, x.Place))
		}
		b = api.Batch{Id: x.Firing, Drawn: -1, Firing: api.Firing{Kiln: k}}
	case api.EvFall:
		if !isThere || x.Mouth >= len(k.Falls) || x.Place >= len(k.Falls[0]) {
			return false
		}
		k.Falls[x.Mouth][x.Place] = x.Fall
	case api.EvSet:
		if !isThere || x.Place >= len(k.Falls[0]) || b.Drawn >= 0 {
			return false
		}
		return put(w.set, x, place{x.Firing, x.Place, x.Body})
	case api.EvRead:
		f, e := heat.With(b.Firing, x.Reading)
		if !isThere || e != api.OK {
			return false
		}
		b.Firing = f
	case api.EvDrawn:
		if !isThere || b.Drawn >= 0 {
			return false
		}
		b.Drawn = x.Day
	case api.EvSold:
		return put(w.sold, x, x.Day)
	case api.EvBroken:
		return put(w.broken, x, x.Day)
	case api.EvSecond:
		return put(w.secondDays, x, x.Day)
	}
	w.batches[x.Firing] = b
	return true
}

// dayIn returns a day of a map, -1 if there is none.
func dayIn(of map[int]int, piece int) int {
	if day, ok := of[piece]; ok {
		return day
	}
	return -1
}

func (w world) piece(no int) api.Piece {
	p := api.Piece{No: no, Broken: dayIn(w.broken, no), Sold: dayIn(w.sold, no), Drawn: -1, Second: dayIn(w.secondDays, no) >= 0}
	if s, ok := w.set[no]; ok {
		p.Firing, p.Place, p.Body, p.Drawn = s.firing, s.place, s.body, w.batches[s.firing].Drawn
	}
	return p
}

// pieces returns the pieces of a firing, rising.
func (w world) pieces(firing int) []int {
	var l []int
	for no := 1; no <= lastPiece; no++ {
		if s, ok := w.set[no]; ok && s.firing == firing {
			l = append(l, no)
		}
	}
	return l
}

// told is what Verdict tells.
type told struct {
	verdict int
	err     api.Errno
}

// heatOf returns the heat that a body of wares wants.
func heatOf(wares api.Wares, body int) (api.Range, bool) {
	for _, b := range wares.Bodies {
		if b.Id == body {
			return b.Heat, true
		}
	}
	return api.Range{}, false
}

func (w world) verdict(wares api.Wares, no int) told {
	s, ok := w.set[no]
	if !ok {
		return told{0, api.ErrPiece}
	}
	want, ok := heatOf(wares, s.body)
	if !ok {
		return told{0, api.ErrNone}
	}
	n, e := heat.Verdict(w.batches[s.firing].Firing, s.place, want)
	return told{n, e}
}

// others returns the pieces of which two worlds tell something else.
func (w world) others(wares api.Wares, v world) []int {
	var l []int
	for no := 1; no <= lastPiece; no++ {
		if w.verdict(wares, no) != v.verdict(wares, no) {
			l = append(l, no)
		}
	}
	return l
}

// together answers for all pieces of a firing, place by place.
func (w world) together(wares api.Wares, firing int) told {
	var wants []api.Want
	one := true
	for p := range api.MaxPlaces {
		want, some := span(-3000, 3000), false
		for _, no := range w.pieces(firing) {
			if w.set[no].place != p {
				continue
			}
			heat, ok := heatOf(wares, w.set[no].body)
			if !ok {
				return told{0, api.ErrNone}
			}
			want, some = span(max(want.Lo, heat.Lo), min(want.Hi, heat.Hi)), true
		}
		if some {
			wants = append(wants, api.Want{Place: p, Heat: want})
			one = one && want.Lo <= want.Hi
		}
	}
	f := w.batches[firing].Firing
	if one {
		n, e := heat.Together(f, wants)
		return told{n, e}
	}
	_, e := heat.Together(f, nil)
	return told{api.No, e}
}
