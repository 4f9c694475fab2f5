package trial_test

import (
	"math/rand"
	"slices"
	"testing"

	"potbank/api"
	"potbank/heat"
	"potbank/trial"
)

func TestVerdictExamples(t *testing.T) {
	hot := []api.Event{kiln(0, 1, 1, 1, 2, 100, 200), set(1, 1, 1, 0, 1, 10, 3), set(1, 1, 1, 1, 2, 20, 2), set(1, 1, 1, 1, 4, 30, 1)}
	ringed := listed(append(hot, ring(2, 2, 1, 0, 1000, 1100), ring(2, 3, 1, 1, 900, 999))...)
	unsound := listed(append(hot, bent(2, 2, 1, 0, 1500), standing(2, 2, 1, 1, 500))...)
	for _, x := range []struct {
		l            []api.Event
		piece, known int
		want         told
	}{
		{history(), 10, 2, told{api.Maybe, api.OK}}, {history(), 10, 3, told{api.Yes, api.OK}}, {history(), 10, 9, told{api.Yes, api.OK}}, {history(), 10, 12, told{api.Maybe, api.OK}},
		{history(), 12, 3, told{api.Yes, api.OK}}, {history(), 10, 1, told{0, api.ErrPiece}}, {history(), 9, 3, told{0, api.ErrPiece}}, {history(), 13, 3, told{0, api.ErrPiece}},
		{ringed, 10, 2, told{api.Yes, api.OK}}, {ringed, 12, 3, told{api.Yes, api.OK}}, {ringed, 20, 2, told{api.Maybe, api.OK}}, {ringed, 20, 3, told{api.Yes, api.OK}}, {ringed, 21, 3, told{api.Yes, api.OK}},
		// The wares lack the body 4; and they are asked first.
		{ringed, 30, 1, told{0, api.ErrNone}}, {unsound, 30, 2, told{0, api.ErrNone}}, {unsound, 10, 2, told{0, api.ErrFalse}}, {unsound, 21, 2, told{0, api.ErrFalse}},
		{unsound, 10, 1, told{api.Maybe, api.OK}}, {unsound, 31, 2, told{0, api.ErrPiece}},
		{listed(append(hot, ring(2, 2, 1, 0, 900, 999))...), 10, 2, told{api.No, api.OK}}, {listed(append(hot, ring(2, 2, 1, 0, 1101, 1200))...), 11, 2, told{api.No, api.OK}},
		{listed(append(hot, ring(2, 2, 1, 0, 999, 1100))...), 10, 2, told{api.Maybe, api.OK}}, {listed(append(hot, ring(2, 2, 1, 0, 1000, 1101))...), 10, 2, told{api.Maybe, api.OK}},
		// The heat of the other place is not that of the piece.
		{listed(append(hot, ring(2, 2, 1, 1, 1000, 1000))...), 20, 2, told{api.Yes, api.OK}}, {listed(append(hot, ring(2, 2, 1, 1, 1000, 1000))...), 10, 2, told{api.Maybe, api.OK}},
	} {
		if n, e := trial.Verdict(wares(), x.l, x.piece, x.known); (told{n, e}) != x.want {
			t.Error(x, n, e)
		}
	}
}

func TestVerdictsExamples(t *testing.T) {
	l := listed(kiln(0, 1, 1, 1, 2, 100, 200), kiln(0, 1, 2, 1, 1, 0, 0), set(2, 1, 1, 0, 1, 10, 2), set(1, 1, 1, 1, 2, 20, 1), set(1, 1, 2, 0, 1, 15, 1),
		set(1, 2, 1, 0, 3, 5, 1), ring(1, 3, 1, 0, 1020, 1049), set(1, 4, 1, 1, 4, 12, 1), withdraw(5, 7), ring(1, 6, 1, 1, 500, 500))
	for _, x := range []struct {
		firing, known int
		want          []api.Judged
		err           api.Errno
	}{
		{1, 1, []api.Judged{{Piece: 10, Verdict: 2}, {Piece: 11, Verdict: 2}, {Piece: 20, Verdict: 2}}, api.OK}, {2, 3, []api.Judged{{Piece: 15, Verdict: 2}}, api.OK},
		{1, 3, []api.Judged{{Piece: 5}, {Piece: 10, Verdict: 1}, {Piece: 11, Verdict: 1}, {Piece: 20, Verdict: 2}}, api.OK}, {1, 4, nil, api.ErrNone},
		{1, 5, []api.Judged{{Piece: 5}, {Piece: 10, Verdict: 1}, {Piece: 11, Verdict: 1}, {Piece: 20, Verdict: 2}}, api.OK}, {1, 6, nil, api.ErrFalse}, {1, 0, nil, api.ErrBatch},
	} {
		if got, e := trial.Verdicts(wares(), l, x.firing, x.known); !slices.Equal(got, x.want) || e != x.err {
			t.Error(x, got, e)
		}
	}
	// A firing that is empty has no verdicts, sound or not.
	l = listed(kiln(0, 0, 1, 1, 1, 0, 0), ring(1, 1, 1, 0, 5, 6), ring(1, 2, 1, 0, 7, 8))
	for known := range 3 {
		if got, e := trial.Verdicts(wares(), l, 1, known); len(got) != 0 || e != api.OK {
			t.Error(known, got, e)
		}
	}
}

// The error is that of the first piece that has one, by its number.
func TestErrorsOfVerdicts(t *testing.T) {
	base := []api.Event{kiln(0, 1, 1, 1, 2, 100, 200), ring(1, 1, 1, 0, 5, 6), ring(1, 1, 1, 0, 7, 8)}
	for _, x := range []struct {
		l    []api.Event
		want api.Errno
	}{
		{append(base, set(1, 1, 1, 0, 1, 10, 2), set(2, 1, 1, 0, 4, 12, 2)), api.ErrFalse}, {append(base, set(1, 1, 1, 0, 1, 10, 2), set(2, 1, 1, 0, 4, 8, 2)), api.ErrNone},
		{append(base, set(1, 1, 1, 0, 4, 10, 2), set(2, 1, 1, 0, 1, 12, 2)), api.ErrNone}, {append(base, set(1, 1, 1, 0, 4, 10, 2), set(2, 1, 1, 0, 1, 8, 2)), api.ErrFalse},
	} {
		if got, e := trial.Verdicts(wares(), listed(x.l...), 1, 1); len(got) != 0 || e != x.want {
			t.Error(x, got, e)
		}
		// All at once, the bodies come ahead of what heat tells.
		if n, e := trial.Together(wares(), listed(x.l...), 1, 1); n != 0 || e != api.ErrNone {
			t.Error(x, n, e)
		}
	}
}

func TestTogetherExamples(t *testing.T) {
	base := []api.Event{kiln(0, 1, 1, 1, 3, 100, 100), kiln(0, 1, 2, 1, 3, 0, 0)}
	for _, x := range []struct {
		l    []api.Event
		want told
	}{
		// Without pieces there is nothing to ask.
		{nil, told{api.Yes, api.OK}}, {[]api.Event{set(1, 1, 2, 0, 1, 1, 1), ring(1, 1, 2, 0, 5, 6)}, told{api.Yes, api.OK}}, {[]api.Event{ring(1, 1, 1, 0, 5, 6), ring(1, 1, 1, 1, 8, 9)}, told{0, api.ErrFalse}},
		{[]api.Event{set(1, 1, 1, 0, 1, 1, 3)}, told{api.Maybe, api.OK}}, {[]api.Event{set(1, 1, 1, 0, 1, 1, 3), ring(1, 1, 1, 0, 1000, 1100)}, told{api.Yes, api.OK}},
		{[]api.Event{set(1, 1, 1, 0, 1, 1, 3), ring(1, 1, 1, 0, 1101, 1102)}, told{api.No, api.OK}}, {[]api.Event{set(1, 1, 1, 0, 4, 1, 3)}, told{0, api.ErrNone}},
		// Two bodies at one place want what their Heats have in common.
		{[]api.Event{set(1, 1, 1, 1, 1, 1, 3), set(1, 1, 1, 1, 3, 7, 1), ring(1, 1, 1, 1, 1050, 1100)}, told{api.Yes, api.OK}},
		{[]api.Event{set(1, 1, 1, 1, 1, 1, 3), set(1, 1, 1, 1, 3, 7, 1), ring(1, 1, 1, 1, 1049, 1100)}, told{api.Maybe, api.OK}},
		{[]api.Event{set(1, 1, 1, 1, 1, 1, 3), set(1, 1, 1, 1, 3, 7, 1), ring(1, 1, 1, 1, 1050, 1101)}, told{api.Maybe, api.OK}},
		{[]api.Event{set(1, 1, 1, 1, 1, 1, 3), set(1, 1, 1, 1, 3, 7, 1), ring(1, 1, 1, 1, 1000, 1049)}, told{api.No, api.OK}},
		{[]api.Event{set(1, 1, 1, 1, 1, 1, 3), set(1, 1, 1, 1, 2, 7, 1), ring(1, 1, 1, 1, 1000, 1000)}, told{api.Yes, api.OK}},
		// 900 to 1000 and 1050 to 1200 have nothing in common.
		{[]api.Event{set(1, 1, 1, 1, 2, 1, 3), set(1, 1, 1, 1, 3, 7, 1)}, told{api.No, api.OK}}, {[]api.Event{set(1, 1, 1, 1, 2, 1, 3), set(1, 1, 1, 0, 1, 9, 3), set(1, 1, 1, 1, 3, 7, 1), ring(1, 1, 1, 0, 1000, 1100)}, told{api.No, api.OK}},
		{[]api.Event{set(1, 1, 1, 1, 2, 1, 3), set(1, 1, 1, 1, 3, 7, 1), ring(1, 1, 1, 0, 5, 6), ring(1, 1, 1, 1, 8, 9)}, told{0, api.ErrFalse}}, {[]api.Event{set(1, 1, 1, 1, 2, 1, 3), set(1, 1, 1, 1, 3, 7, 1), set(1, 1, 1, 1, 4, 8, 1)}, told{0, api.ErrNone}},
		// They have at two places; but one fire heats both, by the same fall.
		{[]api.Event{set(1, 1, 1, 0, 2, 1, 3), set(1, 1, 1, 2, 3, 7, 1)}, told{api.No, api.OK}}, {[]api.Event{set(1, 1, 1, 0, 2, 1, 3), set(1, 1, 1, 2, 1, 7, 1)}, told{api.Maybe, api.OK}},
		{[]api.Event{set(1, 1, 1, 0, 2, 1, 3), set(1, 1, 1, 2, 1, 7, 1), ring(1, 1, 1, 1, 1000, 1000)}, told{api.Yes, api.OK}},
		{[]api.Event{set(1, 1, 1, 0, 2, 1, 3), set(1, 1, 1, 2, 3, 7, 1), fall(1, 1, 1, 0, 0, 200, 200)}, told{api.Maybe, api.OK}},
	} {
		l := listed(slices.Concat(base, x.l)...)
		if n, e := trial.Together(wares(), l, 1, 1); (told{n, e}) != x.want {
			t.Error(x, n, e)
		}
	}
	if n, e := trial.Together(wares(), history(), 1, 0); n != 0 || e != api.ErrBatch {
		t.Error(n, e)
	}
}

// Each of 24 places can have pieces.
func TestTogetherOfAllPlaces(t *testing.T) {
	l := []api.Event{kiln(0, 0, 1, 1, 24, 100, 100), ring(1, 1, 1, 3, 1000, 1000)}
	for p := range 24 {
		l = append(l, set(1, 1, 1, p, 1+p%2, 1+40*p, 40))
	}
	if n, e := trial.Together(wares(), listed(l...), 1, 1); n != api.Yes || e != api.OK {
		t.Error(n, e)
	}
	if got, e := trial.Verdicts(wares(), listed(l...), 1, 1); len(got) != 960 || e != api.OK {
		t.Error(len(got), e)
	}
}

// seenOf counts what Verdict tells of random lists.
type seenOf map[told]int

func (s seenOf) check(t *testing.T, least int) {
	t.Helper()
	for _, x := range []told{{api.Yes, api.OK}, {api.No, api.OK}, {api.Maybe, api.OK}, {0, api.ErrNone}, {0, api.ErrFalse}, {0, api.ErrPiece}} {
		if s[x] < least {
			t.Error("the cases are lopsided", s)
		}
	}
}

func TestVerdictsOfManyLists(t *testing.T) {
	r := rand.New(rand.NewSource(5))
	seen, together := seenOf{}, map[told]int{}
	for range 750 {
		l := someEvents(r, 2, 10)
		for known := 0; known <= lastDay; known += 2 {
			w := worldOf(l, known)
			for no := 1; no <= lastPiece; no++ {
				n, e := trial.Verdict(wares(), l, no, known)
				seen[told{n, e}]++
				if (told{n, e}) != w.verdict(wares(), no) {
					t.Fatal(l, known, no, n, e)
				}
			}
			for firing := range w.batches {
				checkVerdicts(t, l, firing, known, w)
				n, e := trial.Together(wares(), l, firing, known)
				together[told{n, e}]++
				if (told{n, e}) != w.together(wares(), firing) {
					t.Fatal(l, known, firing, n, e)
				}
			}
		}
	}
	seen.check(t, 200)
	if together[told{api.Yes, api.OK}] < 200 || together[told{api.No, api.OK}] < 200 || together[told{api.Maybe, api.OK}] < 200 || together[told{0, api.ErrFalse}] < 100 {
		t.Error("the cases are lopsided", together)
	}
}

func checkVerdicts(t *testing.T, l []api.Event, firing, known int, w world) {
	t.Helper()
	var want []api.Judged
	err := api.OK
	for _, no := range w.pieces(firing) {
		v := w.verdict(wares(), no)
		if v.err != api.OK {
			want, err = nil, v.err
			break
		}
		want = append(want, api.Judged{Piece: no, Verdict: v.verdict})
	}
	if got, e := trial.Verdicts(wares(), l, firing, known); !slices.Equal(got, want) || e != err {
		t.Fatal(l, known, firing, got, want, e)
	}
}

// heatIn returns the heat of a place in a field of a firing; the field has to agree.
func heatIn(t *testing.T, f api.Firing, place int, x api.Field, e api.Errno) int {
	t.Helper()
	heats, g := heat.Heats(f.Kiln, x)
	if e != api.OK || g != api.OK || heat.CheckField(f, x) != api.OK {
		t.Fatal(f, place, x, e, g)
	}
	return heats[place]
}

// The hottest and the coldest field bear a verdict out, and so do fields that have or lack the heat.
func TestVerdictsAreBorneOut(t *testing.T) {
	r := rand.New(rand.NewSource(6))
	seen := seenOf{}
	for range 1000 {
		l := someEvents(r, 2, 10)
		for no := 1; no <= lastPiece; no++ {
			n, e := trial.Verdict(wares(), l, no, lastDay)
			seen[told{n, e}]++
			if e != api.OK {
				continue
			}
			p, _ := trial.Piece(l, no, lastDay)
			b, _ := trial.Batch(l, p.Firing, lastDay)
			want, _ := heatOf(wares(), p.Body)
			low, e := heat.Attain(b.Firing, p.Place, false)
			coldest := heatIn(t, b.Firing, p.Place, low, e)
			high, e := heat.Attain(b.Firing, p.Place, true)
			hottest := heatIn(t, b.Firing, p.Place, high, e)
			isIn := want.Lo <= coldest && hottest <= want.Hi
			isOut := hottest < want.Lo || want.Hi < coldest
			if isIn != (n == api.Yes) || isOut != (n == api.No) {
				t.Fatal(l, no, n, want, coldest, hottest)
			}
			if n == api.Maybe {
				x, e := heat.Show(b.Firing, []api.Want{{Place: p.Place, Heat: want}})
				if got := heatIn(t, b.Firing, p.Place, x, e); got < want.Lo || want.Hi < got {
					t.Fatal(l, no, got)
				}
			}
		}
	}
	seen.check(t, 100)
}

func TestAllAtOnce(t *testing.T) {
	r := rand.New(rand.NewSource(7))
	seen := map[int]int{}
	for range 3000 {
		l := someEvents(r, 2, 10)
		firings, _ := trial.Firings(l, lastDay)
		for _, firing := range firings {
			n, e := trial.Together(wares(), l, firing, lastDay)
			all, f := trial.Verdicts(wares(), l, firing, lastDay)
			if e != api.OK || len(all) == 0 {
				continue
			}
			if f != api.OK {
				t.Fatal(l, firing, n, f)
			}
			seen[n]++
			isNo := slices.ContainsFunc(all, func(x api.Judged) bool { return x.Verdict == api.No })
			isEach := !slices.ContainsFunc(all, func(x api.Judged) bool { return x.Verdict != api.Yes })
			if (n == api.Yes) != isEach || isNo && n != api.No {
				t.Fatal(l, firing, n, all)
			}
			if n == api.Maybe {
				checkFiredRight(t, l, firing)
			}
		}
	}
	if seen[api.Yes] < 50 || seen[api.No] < 100 || seen[api.Maybe] < 100 {
		t.Error("the cases are lopsided", seen)
	}
}

// checkFiredRight tells whether some field fires all pieces of a firing right.
func checkFiredRight(t *testing.T, l []api.Event, firing int) {
	t.Helper()
	b, _ := trial.Batch(l, firing, lastDay)
	w := worldOf(l, lastDay)
	var wants []api.Want
	for _, no := range w.pieces(firing) {
		want, _ := heatOf(wares(), w.set[no].body)
		wants = append(wants, api.Want{Place: w.set[no].place, Heat: want})
	}
	x, e := heat.Show(b.Firing, wants)
	for _, want := range wants {
		if n := heatIn(t, b.Firing, want.Place, x, e); n < want.Heat.Lo || want.Heat.Hi < n {
			t.Fatal(l, firing, x, want)
		}
	}
}
