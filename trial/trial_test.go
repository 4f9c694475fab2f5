package trial_test

import (
	"math/rand"
	"slices"
	"testing"

	"potbank/api"
	"potbank/probe"
	"potbank/trial"
)

var (
	span         = probe.Span
	wrongNumbers = probe.WrongNumbers
	wrongRanges  = probe.WrongRanges
)

func entry(house, no int) api.Entry { return api.Entry{House: house, No: no} }

// The events that these make have the entry 0 0; listed gives them others.

func kiln(day, known, firing, mouths, places, lo, hi int) api.Event {
	return api.Event{Kind: api.EvKiln, Day: day, Known: known, Firing: firing, Mouth: mouths, Place: places, Fall: span(lo, hi)}
}

func fall(day, known, firing, mouth, place, lo, hi int) api.Event {
	return api.Event{Kind: api.EvFall, Day: day, Known: known, Firing: firing, Mouth: mouth, Place: place, Fall: span(lo, hi)}
}

func set(day, known, firing, place, body, first, many int) api.Event {
	return api.Event{Kind: api.EvSet, Day: day, Known: known, Firing: firing, Place: place, Body: body, First: first, Many: many}
}

func read(day, known, firing int, r api.Reading) api.Event {
	r.Source = 1
	return api.Event{Kind: api.EvRead, Day: day, Known: known, Firing: firing, Reading: r}
}

func ring(day, known, firing, place, lo, hi int) api.Event {
	return read(day, known, firing, api.Reading{Place: place, Kind: api.Ring, Heat: span(lo, hi)})
}

func bent(day, known, firing, place, mark int) api.Event {
	return read(day, known, firing, api.Reading{Place: place, Kind: api.Bent, Mark: mark})
}

func standing(day, known, firing, place, mark int) api.Event {
	return read(day, known, firing, api.Reading{Place: place, Kind: api.Standing, Mark: mark})
}

func drawn(day, known, firing int) api.Event {
	return api.Event{Kind: api.EvDrawn, Day: day, Known: known, Firing: firing}
}

func pieces(kind, day, known, first, many int) api.Event {
	return api.Event{Kind: kind, Day: day, Known: known, First: first, Many: many}
}

func sold(day, known, first, many int) api.Event { return pieces(api.EvSold, day, known, first, many) }

func broken(day, known, first, many int) api.Event {
	return pieces(api.EvBroken, day, known, first, many)
}

func second(day, known, first, many int) api.Event {
	return pieces(api.EvSecond, day, known, first, many)
}

// withdraw withdraws the No-th event of its house.
func withdraw(known, no int) api.Event {
	return api.Event{Kind: api.EvWithdraw, Known: known, Of: api.Entry{No: no}}
}

// at returns an event with another entry.
func at(house, no int, x api.Event) api.Event {
	x.At = entry(house, no)
	if x.Kind == api.EvRead {
		x.Reading.Source = 10000*house + no + 1
	}
	if x.Kind == api.EvWithdraw {
		x.Of.House = house
	}
	return x
}

// listed returns a list of events of the house 0, with No from 0 on.
func listed(l ...api.Event) []api.Event {
	var events []api.Event
	for no, x := range l {
		events = append(events, at(0, no, x))
	}
	return events
}

// history has the events of the chapter's examples.
func history() []api.Event {
	return listed(kiln(1, 1, 1, 1, 2, 100, 200), set(2, 2, 1, 0, 1, 10, 3), ring(3, 3, 1, 0, 1010, 1020), drawn(4, 4, 1),
		sold(6, 6, 10, 2), ring(3, 9, 1, 0, 900, 1015), withdraw(12, 2))
}

func TestSources(t *testing.T) {
	for x, source := range map[api.Entry]int{
		entry(0, 0): 1, entry(0, 9999): 10000, entry(1, 0): 10001, entry(2, 77): 20078, entry(5, 0): 50001, entry(5, 9999): 60000,
	} {
		if n := trial.Source(x); n != source {
			t.Error(x, n)
		}
		if y, e := trial.EntryOf(source); y != x || e != api.OK {
			t.Error(source, y, e)
		}
	}
	last := 0
	for house := range 6 {
		for no := range 10000 {
			source := trial.Source(entry(house, no))
			if x, e := trial.EntryOf(source); source != last+1 || x != entry(house, no) || e != api.OK {
				t.Fatal(house, no, source, x, e)
			}
			last = source
		}
	}
}

// wrongEntries lists what are no entries.
func wrongEntries() []api.Entry {
	var l []api.Entry
	for _, n := range wrongNumbers(0, 5) {
		l = append(l, entry(n, 0), entry(n, 7))
	}
	for _, n := range wrongNumbers(0, 9999) {
		l = append(l, entry(0, n), entry(3, n))
	}
	return append(l, entry(1, -1), entry(-1, 10000))
}

func TestWhatIsNoSource(t *testing.T) {
	for _, x := range wrongEntries() {
		if n := trial.Source(x); n != 0 {
			t.Error(x, n)
		}
	}
	for _, source := range append(wrongNumbers(1, 60000), 99999) {
		if x, e := trial.EntryOf(source); x != (api.Entry{}) || e != api.ErrSource {
			t.Error(source, x, e)
		}
	}
}

// rightEvents lists valid events of all kinds, at their limits.
func rightEvents() []api.Event {
	l := append(history(), at(5, 9999, withdraw(100000, 9998)), at(5, 1, withdraw(0, 0)))
	for _, place := range []int{0, 23} {
		l = append(l, ring(0, 100000, 99, place, 1, 1), ring(0, 0, 1, place, 2000, 2000), bent(100000, 0, 1, place, 1), bent(1, 1, 1, place, 2000),
			standing(1, 1, 1, place, 1), standing(1, 1, 99, place, 2000), at(5, 9999, bent(1, 1, 1, place, 7)),
			set(0, 0, 1, place, 1, 1, 1), set(100000, 100000, 99, place, 999, 9960, 40), set(5, 4, 1, place, 2, 9999, 1),
			fall(0, 0, 1, 0, place, 0, 0), fall(100000, 100000, 99, 5, place, 3000, 3000), fall(1, 1, 1, 1, place, 0, 3000))
	}
	for _, kind := range []int{api.EvSold, api.EvBroken, api.EvSecond} {
		l = append(l, pieces(kind, 0, 0, 1, 1), pieces(kind, 100000, 100000, 9960, 40), pieces(kind, 3, 2, 9999, 1), pieces(kind, 3, 2, 1, 40))
	}
	return append(l, kiln(0, 0, 1, 1, 1, 0, 0), kiln(100000, 100000, 99, 6, 24, 3000, 3000), kiln(1, 0, 2, 6, 1, 0, 3000),
		drawn(0, 0, 1), drawn(100000, 100000, 99), at(5, 9999, drawn(7, 7, 7)))
}

// eventOf returns a valid event of a kind, of the entry 1 5.
func eventOf(kind int) api.Event {
	return at(1, 5, []api.Event{
		withdraw(2, 3), kiln(1, 2, 3, 2, 4, 5, 6), fall(1, 2, 3, 1, 4, 5, 6), set(1, 2, 3, 4, 5, 6, 7),
		read(1, 2, 3, api.Reading{Place: 4, Kind: api.Ring, Heat: span(5, 6)}), drawn(1, 2, 3),
		sold(1, 2, 3, 4), broken(1, 2, 3, 4), second(1, 2, 3, 4),
	}[kind])
}

// with returns a copy of an event that is changed.
func with(x api.Event, change func(x *api.Event)) api.Event {
	change(&x)
	return x
}

// withRange returns copies of an event whose range is not one of numbers from lo to hi.
func withRange(x api.Event, lo, hi int, of func(x *api.Event) *api.Range) []api.Event {
	var l []api.Event
	for _, r := range wrongRanges(lo, hi) {
		l = append(l, with(x, func(x *api.Event) { *of(x) = r }))
	}
	return l
}

// withNumber returns copies of an event whose number is not from lo to hi.
func withNumber(x api.Event, lo, hi int, of func(x *api.Event) *int) []api.Event {
	var l []api.Event
	for _, n := range wrongNumbers(lo, hi) {
		l = append(l, with(x, func(x *api.Event) { *of(x) = n }))
	}
	return l
}

// field is a number of an event, and the kinds that have it.
type field struct {
	of    func(x *api.Event) *int
	kinds []int
}

func fields() []field {
	firings := []int{api.EvKiln, api.EvFall, api.EvSet, api.EvRead, api.EvDrawn}
	places := []int{api.EvKiln, api.EvFall, api.EvSet}
	many := []int{api.EvSet, api.EvSold, api.EvBroken, api.EvSecond}
	return []field{
		{func(x *api.Event) *int { return &x.Firing }, firings},
		{func(x *api.Event) *int { return &x.Mouth }, []int{api.EvKiln, api.EvFall}},
		{func(x *api.Event) *int { return &x.Place }, places},
		{func(x *api.Event) *int { return &x.Body }, []int{api.EvSet}},
		{func(x *api.Event) *int { return &x.First }, many},
		{func(x *api.Event) *int { return &x.Many }, many},
		{func(x *api.Event) *int { return &x.Fall.Lo }, []int{api.EvKiln, api.EvFall}},
		{func(x *api.Event) *int { return &x.Fall.Hi }, []int{api.EvKiln, api.EvFall}},
		{func(x *api.Event) *int { return &x.Reading.Source }, []int{api.EvRead}},
		{func(x *api.Event) *int { return &x.Reading.Place }, []int{api.EvRead}},
		{func(x *api.Event) *int { return &x.Reading.Kind }, []int{api.EvRead}},
		{func(x *api.Event) *int { return &x.Reading.Heat.Lo }, []int{api.EvRead}},
		{func(x *api.Event) *int { return &x.Reading.Heat.Hi }, []int{api.EvRead}},
		{func(x *api.Event) *int { return &x.Reading.Mark }, nil}, // as eventOf reads a ring
		{func(x *api.Event) *int { return &x.Of.House }, nil},
		{func(x *api.Event) *int { return &x.Of.No }, []int{api.EvWithdraw}},
		{func(x *api.Event) *int { return &x.Day }, []int{1, 2, 3, 4, 5, 6, 7, 8}},
	}
}

// strangeFields lists events of each kind that have a field of another kind.
func strangeFields() []api.Event {
	var l []api.Event
	for kind := range 9 {
		for _, f := range fields() {
			if slices.Contains(f.kinds, kind) {
				continue
			}
			for _, n := range []int{1, -1, 4, 7} {
				// The entry 1 5 withdraws one of the house 1.
				if x := with(eventOf(kind), func(x *api.Event) { *f.of(x) = n }); x != eventOf(kind) {
					l = append(l, x)
				}
			}
		}
	}
	return l
}

// wrongOfPieces lists events of a kind that has pieces with others.
func wrongOfPieces(kind int) []api.Event {
	x := eventOf(kind)
	l := slices.Concat(withNumber(x, 1, 9999, func(x *api.Event) *int { return &x.First }),
		withNumber(x, 1, 40, func(x *api.Event) *int { return &x.Many }))
	for first := 9961; first <= 9999; first++ {
		l = append(l, with(x, func(x *api.Event) { x.First, x.Many = first, 10001-first }))
	}
	return l
}

func wrongReadings() []api.Event {
	x := eventOf(api.EvRead)
	l := slices.Concat(withNumber(x, 0, 23, func(x *api.Event) *int { return &x.Reading.Place }),
		withNumber(x, 1, 3, func(x *api.Event) *int { return &x.Reading.Kind }),
		withRange(x, 1, 2000, func(x *api.Event) *api.Range { return &x.Reading.Heat }),
		withNumber(x, 10006, 10006, func(x *api.Event) *int { return &x.Reading.Source }))
	for _, y := range []api.Event{bent(1, 2, 3, 4, 5), standing(1, 2, 3, 4, 5)} {
		y = at(1, 5, y)
		l = append(l, withNumber(y, 1, 2000, func(x *api.Event) *int { return &x.Reading.Mark })...)
		l = append(l, with(y, func(x *api.Event) { x.Reading.Heat = span(5, 5) }), with(y, func(x *api.Event) { x.Reading.Source = 6 }))
	}
	return append(l, with(x, func(x *api.Event) { x.Reading.Mark = 5 }), with(x, func(x *api.Event) { x.Reading = api.Reading{} }))
}

func wrongWithdrawals() []api.Event {
	x := eventOf(api.EvWithdraw)
	l := withNumber(x, 0, 4, func(x *api.Event) *int { return &x.Of.No })
	for _, of := range wrongEntries() {
		l = append(l, with(x, func(x *api.Event) { x.Of = of }))
	}
	return append(l, at(0, 0, withdraw(1, 0)), at(1, 0, withdraw(1, 0)), at(1, 5, withdraw(1, 5)), at(2, 9999, withdraw(1, 9999)),
		with(x, func(x *api.Event) { x.Of.House = 0 }), with(x, func(x *api.Event) { x.Of.House = 2 }), with(x, func(x *api.Event) { x.Day = 1 }))
}

// wrongEvents lists events that are not valid.
func wrongEvents() []api.Event {
	l := slices.Concat(strangeFields(), wrongReadings(), wrongWithdrawals())
	for kind := range 9 {
		x := eventOf(kind)
		l = append(l, withNumber(x, 0, 100000, func(x *api.Event) *int { return &x.Known })...)
		l = append(l, withNumber(x, 0, 100000, func(x *api.Event) *int { return &x.Day })...)
		for _, y := range wrongEntries() {
			l = append(l, with(x, func(x *api.Event) { x.At = y }), at(y.House, y.No, x))
		}
		if kind == api.EvSet || kind >= api.EvSold {
			l = append(l, wrongOfPieces(kind)...)
		}
		if api.EvKiln <= kind && kind <= api.EvDrawn {
			l = append(l, withNumber(x, 1, 99, func(x *api.Event) *int { return &x.Firing })...)
		}
		if kind == api.EvKiln || kind == api.EvFall {
			l = append(l, withRange(x, 0, 3000, func(x *api.Event) *api.Range { return &x.Fall })...)
		}
		for _, n := range append(wrongNumbers(0, 8), 10, 40) {
			l = append(l, with(x, func(x *api.Event) { x.Kind = n }))
		}
	}
	mouth, place := func(x *api.Event) *int { return &x.Mouth }, func(x *api.Event) *int { return &x.Place }
	return slices.Concat(l, withNumber(eventOf(api.EvKiln), 1, 6, mouth), withNumber(eventOf(api.EvKiln), 1, 24, place),
		withNumber(eventOf(api.EvFall), 0, 5, mouth), withNumber(eventOf(api.EvFall), 0, 23, place),
		withNumber(eventOf(api.EvSet), 0, 23, place), withNumber(eventOf(api.EvSet), 1, 999, func(x *api.Event) *int { return &x.Body }),
		[]api.Event{{}, {At: entry(0, 1), Kind: api.EvDrawn}})
}

func TestCheckEvent(t *testing.T) {
	for _, x := range rightEvents() {
		if e := trial.CheckEvent(x); e != api.OK {
			t.Error(x, e)
		}
	}
	for kind := range 9 {
		if e := trial.CheckEvent(eventOf(kind)); e != api.OK || eventOf(kind).Kind != kind {
			t.Error(kind, e)
		}
	}
	for _, x := range wrongEvents() {
		if e := trial.CheckEvent(x); e != api.ErrEvent {
			t.Error(x, e)
		}
	}
}

// many returns so many events of a house.
func many(house, n int) []api.Event {
	var l []api.Event
	for no := range n {
		l = append(l, at(house, no, drawn(1, 1, 1)))
	}
	return l
}

func wrongLists() [][]api.Event {
	x, y, z := at(0, 9999, drawn(1, 1, 1)), at(1, 0, drawn(1, 1, 1)), at(1, 1, drawn(1, 1, 1))
	l := [][]api.Event{
		many(0, 61), append(many(0, 60), at(5, 0, drawn(1, 1, 1))), {x, x}, {y, x}, {z, y}, {x, z, y}, {y, y, z},
		{x, y, at(1, 0, drawn(2, 2, 2))}, {at(2, 0, drawn(1, 1, 1)), at(1, 9999, drawn(1, 1, 1))},
	}
	for _, wrong := range wrongEvents() {
		l = append(l, []api.Event{wrong}, []api.Event{wrong, at(5, 9999, drawn(1, 1, 1))}, []api.Event{at(0, 0, drawn(1, 1, 1)), wrong})
	}
	return l
}

func TestCheck(t *testing.T) {
	for _, l := range [][]api.Event{
		nil, {}, history(), many(0, 60), slices.Concat(many(0, 20), many(3, 20), many(5, 20)),
		{at(0, 9999, drawn(1, 1, 1)), at(1, 0, drawn(1, 1, 1)), at(1, 7, drawn(1, 1, 1)), at(5, 9999, drawn(1, 1, 1))},
		// What is withdrawn need not be there.
		{at(3, 7, withdraw(1, 5))},
	} {
		if e := trial.Check(l); e != api.OK {
			t.Error(l, e)
		}
	}
	for _, l := range wrongLists() {
		if e := trial.Check(l); e != api.ErrEvents {
			t.Error(l, e)
		}
	}
}

func TestAdd(t *testing.T) {
	for i, x := range history() {
		rest := slices.Delete(history(), i, i+1)
		if l, e := trial.Add(rest, x); !slices.Equal(l, history()) || e != api.OK {
			t.Error(i, l, e)
		}
		if l, e := trial.Add(history(), x); !slices.Equal(l, history()) || e != api.OK {
			t.Error(i, l, e)
		}
	}
	if l, e := trial.Add(nil, eventOf(api.EvSet)); !slices.Equal(l, []api.Event{eventOf(api.EvSet)}) || e != api.OK {
		t.Error(l, e)
	}
	l, e := trial.Add([]api.Event{at(0, 9999, drawn(1, 1, 1)), at(2, 0, drawn(1, 1, 1))}, at(1, 5, drawn(1, 1, 1)))
	if e != api.OK || len(l) != 3 || l[0].At != entry(0, 9999) || l[1].At != entry(1, 5) || l[2].At != entry(2, 0) {
		t.Error(l, e)
	}
}

func TestAddErrors(t *testing.T) {
	for _, x := range wrongEvents() {
		if l, e := trial.Add(history(), x); len(l) != 0 || e != api.ErrEvent {
			t.Error(x, l, e)
		}
	}
	full := many(0, 60)
	if l, e := trial.Add(full, full[30]); !slices.Equal(l, full) || e != api.OK {
		t.Error("it is there already", l, e)
	}
	if l, e := trial.Add(full, at(1, 0, drawn(1, 1, 1))); len(l) != 0 || e != api.ErrLong {
		t.Error(l, e)
	}
	if l, e := trial.Add(full, at(0, 7, drawn(1, 1, 2))); len(l) != 0 || e != api.ErrSame {
		t.Error(l, e)
	}
	// All fields count.
	for kind := range 9 {
		x := eventOf(kind)
		l := []api.Event{x}
		for _, y := range []api.Event{with(x, func(x *api.Event) { x.Known++ }), eventOf((kind + 1) % 9), eventOf((kind + 5) % 9)} {
			if l, e := trial.Add(l, y); len(l) != 0 || e != api.ErrSame {
				t.Error(x, y, l, e)
			}
		}
		for _, f := range fields() {
			y := with(x, func(x *api.Event) { *f.of(x)-- })
			if trial.CheckEvent(y) != api.OK {
				continue
			}
			if l, e := trial.Add(l, y); len(l) != 0 || e != api.ErrSame {
				t.Error(x, y, l, e)
			}
		}
	}
}

func TestJoin(t *testing.T) {
	all := history()
	for _, x := range []struct{ a, b, want []api.Event }{
		{nil, nil, nil}, {all, nil, all}, {nil, all, all}, {all, all, all}, {all[:4], all[2:], all}, {all[3:], all[:3], all},
		{[]api.Event{all[0], all[2], all[4]}, []api.Event{all[1], all[3]}, all[:5]},
		{many(1, 30), many(0, 30), slices.Concat(many(0, 30), many(1, 30))}, {many(0, 60), many(0, 60), many(0, 60)},
	} {
		if l, e := trial.Join(x.a, x.b); !slices.Equal(l, x.want) || e != api.OK {
			t.Error(x, l, e)
		}
	}
	other := many(0, 40)
	other[39].Known = 7
	for _, x := range []struct {
		a, b []api.Event
		want api.Errno
	}{
		{many(0, 31), many(1, 30), api.ErrLong}, {many(0, 40), other, api.ErrSame},
		{slices.Concat(many(0, 40), many(1, 20)), append(slices.Clone(other), at(2, 0, drawn(1, 1, 1))), api.ErrSame},
	} {
		if l, e := trial.Join(x.a, x.b); len(l) != 0 || e != x.want {
			t.Error(x, l, e)
		}
		if l, e := trial.Join(x.b, x.a); len(l) != 0 || e != x.want {
			t.Error(x, l, e)
		}
	}
	for _, wrong := range wrongLists() {
		for _, right := range [][]api.Event{nil, history(), wrong} {
			if l, e := trial.Join(wrong, right); len(l) != 0 || e != api.ErrEvents {
				t.Error(wrong, l, e)
			}
			if l, e := trial.Join(right, wrong); len(l) != 0 || e != api.ErrEvents {
				t.Error(wrong, l, e)
			}
		}
	}
}

// joined is Join by the chapter's words: by entries, each once.
func joined(a, b []api.Event) ([]api.Event, api.Errno) {
	of := map[api.Entry]api.Event{}
	for _, x := range slices.Concat(a, b) {
		if y, ok := of[x.At]; ok && x != y {
			return nil, api.ErrSame
		}
		of[x.At] = x
	}
	var l []api.Event
	for house := range api.MaxHouses {
		for no := range 20 {
			if x, ok := of[entry(house, no)]; ok {
				l = append(l, x)
			}
		}
	}
	if len(l) > 60 {
		return nil, api.ErrLong
	}
	return l, api.OK
}

// part returns some events of a list.
func part(r *rand.Rand, l []api.Event, of int) []api.Event {
	return slices.DeleteFunc(slices.Clone(l), func(api.Event) bool { return r.Intn(of) == 0 })
}

func TestJoinOfManyLists(t *testing.T) {
	r := rand.New(rand.NewSource(1))
	seen := map[api.Errno]int{}
	for range 1000 {
		l := someEvents(r, 5, 16)
		a, b, c := part(r, l, 2), part(r, l, 2), part(r, l, 3)
		if len(b) > 0 && r.Intn(3) == 0 {
			b[r.Intn(len(b))].Known = 10
		}
		if len(a) > 60 || len(b) > 60 || len(c) > 60 {
			continue
		}
		want, err := joined(a, b)
		ab, e := trial.Join(a, b)
		ba, f := trial.Join(b, a)
		seen[e]++
		if !slices.Equal(ab, want) || e != err || !slices.Equal(ba, want) || f != err {
			t.Fatal(a, b, ab, ba, e, f)
		}
		aa, e := trial.Join(a, a)
		if !slices.Equal(aa, a) || e != api.OK {
			t.Fatal(a, aa, e)
		}
		bc, f := trial.Join(b, c)
		if err != api.OK || f != api.OK {
			continue
		}
		left, e := trial.Join(ab, c)
		right, f := trial.Join(a, bc)
		if !slices.Equal(left, right) || e != f {
			t.Fatal(a, b, c, left, right, e, f)
		}
	}
	if seen[api.OK] < 200 || seen[api.ErrSame] < 100 || seen[api.ErrLong] < 5 {
		t.Error("the cases are lopsided", seen)
	}
}

func TestAddIsJoinWithOne(t *testing.T) {
	r := rand.New(rand.NewSource(2))
	for range 2000 {
		l := someEvents(r, 5, 16)
		x := l[r.Intn(len(l))]
		if r.Intn(3) == 0 {
			x.Known = 10
		}
		l = part(r, l, 3)
		l = l[:min(len(l), 60)]
		a, e := trial.Add(l, x)
		b, f := trial.Join(l, []api.Event{x})
		if !slices.Equal(a, b) || e != f {
			t.Fatal(l, x, a, b, e, f)
		}
	}
}

func TestWithout(t *testing.T) {
	for i, x := range history() {
		rest := slices.Delete(history(), i, i+1)
		if l, e := trial.Without(history(), x.At); !slices.Equal(l, rest) || e != api.OK {
			t.Error(i, l, e)
		}
		if l, e := trial.Without(rest, x.At); len(l) != 0 || e != api.ErrNone {
			t.Error(i, l, e)
		}
	}
	for _, x := range append(wrongEntries(), entry(0, 7), entry(1, 0), entry(5, 9999)) {
		if l, e := trial.Without(history(), x); len(l) != 0 || e != api.ErrNone {
			t.Error(x, l, e)
		}
		if l, e := trial.Without(nil, x); len(l) != 0 || e != api.ErrNone {
			t.Error(x, l, e)
		}
	}
	for _, l := range wrongLists() {
		for _, x := range []api.Entry{entry(0, 0), entry(9, 9)} {
			if l, e := trial.Without(l, x); len(l) != 0 || e != api.ErrEvents {
				t.Error(l, x, e)
			}
		}
	}
}

// What is made of a list is new memory, and the list stays as it is.
func TestMadeListsAreNew(t *testing.T) {
	l := slices.Grow(history(), 5)
	more, _ := trial.Add(l, eventOf(api.EvSet))
	same, _ := trial.Add(l, l[3])
	joined, _ := trial.Join(l, nil)
	other, _ := trial.Join(nil, l)
	less, _ := trial.Without(l, l[6].At)
	first, _ := trial.Without(l, l[0].At)
	for _, made := range [][]api.Event{more, same, joined, other, less, first} {
		if len(made) < 6 || len(made) > 8 {
			t.Error(made)
		}
		clear(append(made, api.Event{}))
	}
	if !slices.Equal(l, history()) || l[:8][7] != (api.Event{}) {
		t.Error(l)
	}
}
