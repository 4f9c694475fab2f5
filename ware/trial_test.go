package ware_test

import (
	"math"
	"math/rand"
	"slices"
	"testing"

	"potbank/api"
	"potbank/ware"
)

// short and long are the trials of the chapter's examples.
func short() api.Trial { return api.Trial{Source: 3, Wet: span(100, 100), Dry: span(89, 89)} }

func long() api.Trial { return api.Trial{Source: 4, Wet: span(100, 100), Dry: span(90, 91)} }

func wrongTrials() []api.Trial {
	var l []api.Trial
	add := func(change func(x *api.Trial)) {
		x := short()
		change(&x)
		l = append(l, x)
	}
	for _, n := range wrongNumbers(1, api.MaxSource) {
		add(func(x *api.Trial) { x.Source = n })
	}
	for _, r := range wrongRanges(1, api.MaxSize) {
		add(func(x *api.Trial) { x.Wet = r })
	}
	for _, r := range wrongRanges(0, api.MaxSize) {
		add(func(x *api.Trial) { x.Dry = r })
	}
	return append(l, api.Trial{})
}

// allows is the chapter's definition: the lengths that the wet ones become, and those of Dry, have one in common.
func allows(x api.Trial, s int) bool {
	return max(x.Wet.Lo*(1000-s), x.Dry.Lo*1000) <= min(x.Wet.Hi*(1000-s), x.Dry.Hi*1000)
}

// shrinkages returns the numbers of a range that all trials of the sources allow; of all sources if by is nil.
func shrinkages(shrink api.Range, l []api.Trial, by []int) []int {
	var all []int
	for s := shrink.Lo; s <= shrink.Hi; s++ {
		if !slices.ContainsFunc(l, func(x api.Trial) bool {
			return (by == nil || slices.Contains(by, x.Source)) && !allows(x, s)
		}) {
			all = append(all, s)
		}
	}
	return all
}

// isConflict is the definition of what CheckClash accepts, but for the order of by.
func isConflict(shrink api.Range, l []api.Trial, by []int) bool {
	if len(by) == 0 || len(shrinkages(shrink, l, by)) > 0 {
		return false
	}
	for i := range by {
		rest := append(slices.Clone(by[:i]), by[i+1:]...)
		if len(rest) == 0 {
			continue // no trials contradict nothing
		}
		if len(shrinkages(shrink, l, rest)) == 0 {
			return false
		}
	}
	return true
}

// randomTrials are about so wide that lists of them contradict each other as often as not; some share a source.
func randomTrials(r *rand.Rand, b api.Body) []api.Trial {
	l := make([]api.Trial, r.Intn(7))
	wide := 1 + r.Intn(40)
	for i := range l {
		wet := 100 + r.Intn(1900)
		dry := wet * (1000 - b.Shrink.Lo - r.Intn(b.Shrink.Hi-b.Shrink.Lo+1)) / 1000
		l[i] = api.Trial{
			Source: 1 + r.Intn(6),
			Wet:    span(wet, min(wet+r.Intn(wide), api.MaxSize)),
			Dry:    span(max(dry-r.Intn(wide), 0), min(dry+r.Intn(wide), api.MaxSize)),
		}
	}
	return l
}

func TestCheckTrials(t *testing.T) {
	widest := api.Trial{Source: api.MaxSource, Wet: span(1, api.MaxSize), Dry: span(0, api.MaxSize)}
	greatest := api.Trial{Source: 1, Wet: span(api.MaxSize, api.MaxSize), Dry: span(api.MaxSize, api.MaxSize)}
	for _, l := range [][]api.Trial{nil, {}, {widest, greatest}, slices.Repeat([]api.Trial{short()}, api.MaxTrials)} {
		if e := ware.CheckTrials(l); e != api.OK {
			t.Error(l, e)
		}
	}
	for _, x := range wrongTrials() {
		if e := ware.CheckTrials([]api.Trial{short(), x}); e != api.ErrTrial {
			t.Error(x, e)
		}
	}
	for _, l := range [][]api.Trial{slices.Repeat([]api.Trial{short()}, api.MaxTrials+1), make([]api.Trial, api.MaxTrials+1)} {
		if e := ware.CheckTrials(l); e != api.ErrLong {
			t.Error("too many come first", e)
		}
	}
}

func TestTold(t *testing.T) {
	for _, c := range []struct {
		wet, dry, want api.Range
	}{
		{span(100, 100), span(89, 89), span(110, 110)},
		{span(100, 100), span(90, 91), span(90, 100)},
		{span(1, api.MaxSize), span(0, api.MaxSize), span(0, api.MaxShrink)},
		{span(100, 100), span(100, 120), span(0, 0)},
		{span(100, 100), span(60, 80), span(200, 200)},
		{span(1000, 1010), span(900, 900), span(100, 108)},
	} {
		if r, e := ware.Told(api.Trial{Source: 1, Wet: c.wet, Dry: c.dry}); r != c.want || e != api.OK {
			t.Error(c, r, e)
		}
	}
	for _, x := range []api.Trial{
		{Source: 1, Wet: span(100, 100), Dry: span(10, 20)},
		{Source: 1, Wet: span(100, 100), Dry: span(101, 200)},
		{Source: 1, Wet: span(2000, 2000), Dry: span(1999, 1999)}, // half a part
	} {
		if r, e := ware.Told(x); r != (api.Range{}) || e != api.ErrNone {
			t.Error(x, r, e)
		}
	}
	for _, x := range wrongTrials() {
		if r, e := ware.Told(x); r != (api.Range{}) || e != api.ErrTrial {
			t.Error(x, r, e)
		}
	}
}

func TestToldHasExactlyWhatIsAllowed(t *testing.T) {
	r := rand.New(rand.NewSource(7))
	none := 0
	for range 4000 {
		x := api.Trial{Source: 1, Wet: randomRange(r, 1, api.MaxSize), Dry: randomRange(r, 0, api.MaxSize)}
		if r.Intn(2) == 0 {
			x.Wet.Hi = x.Wet.Lo
			x.Dry.Lo = min(x.Wet.Lo*(800+r.Intn(201))/1000, x.Dry.Hi)
			x.Dry.Hi = x.Dry.Lo + r.Intn(2)
		}
		got, e := ware.Told(x)
		want := shrinkages(span(0, api.MaxShrink), []api.Trial{x}, nil)
		if len(want) == 0 {
			none++
			if got != (api.Range{}) || e != api.ErrNone {
				t.Fatal(x, got, e)
			}
		} else if got != span(want[0], want[len(want)-1]) || len(want) != got.Hi-got.Lo+1 || e != api.OK {
			t.Fatal(x, got, e, want)
		}
	}
	if none < 100 || none > 3500 {
		t.Error("the cases are lopsided", none)
	}
}

func TestNarrowAndClashExamples(t *testing.T) {
	want := clay()
	want.Shrink = span(110, 110)
	if b, e := ware.Narrow(clay(), []api.Trial{short()}); b != want || e != api.OK {
		t.Error(b, e)
	}
	want.Shrink = span(100, 100)
	if b, e := ware.Narrow(clay(), []api.Trial{long()}); b != want || e != api.OK {
		t.Error(b, e)
	}
	if b, e := ware.Narrow(clay(), nil); b != clay() || e != api.OK {
		t.Error("no trials tell nothing", b, e)
	}
	for _, both := range [][]api.Trial{{short(), long()}, {long(), short()}} {
		if b, e := ware.Narrow(clay(), both); b != (api.Body{}) || e != api.ErrClash {
			t.Error(b, e)
		}
		if by, e := ware.Clash(clay(), both); !slices.Equal(by, []int{3, 4}) || e != api.OK {
			t.Error(by, e)
		}
	}
	for _, l := range [][]api.Trial{nil, {short()}} {
		if by, e := ware.Clash(clay(), l); len(by) != 0 || e != api.ErrNone {
			t.Error(by, e)
		}
	}
}

func TestClashLeavesOutTheGreatestFirst(t *testing.T) {
	later, alone := long(), short()
	later.Source = 9
	if by, e := ware.Clash(clay(), []api.Trial{later, short(), long()}); !slices.Equal(by, []int{3, 4}) || e != api.OK {
		t.Error(by, e)
	}
	alone.Source, alone.Dry = 7, span(10, 20)
	if by, e := ware.Clash(clay(), []api.Trial{long(), alone}); !slices.Equal(by, []int{7}) || e != api.OK {
		t.Error("one trial alone contradicts the body", by, e)
	}
	// 3 with 4, and 7 alone: 7 goes first, as the greatest.
	if by, e := ware.Clash(clay(), []api.Trial{alone, long(), short()}); !slices.Equal(by, []int{3, 4}) || e != api.OK {
		t.Error(by, e)
	}
}

func TestClashOfOneSourceWithTwoTrials(t *testing.T) {
	later := long()
	later.Source = short().Source
	l := []api.Trial{short(), later}
	if by, e := ware.Clash(clay(), l); !slices.Equal(by, []int{3}) || e != api.OK {
		t.Error(by, e)
	}
	if e := ware.CheckClash(clay(), l, []int{3}); e != api.OK {
		t.Error(e)
	}
	if e := ware.CheckClash(clay(), l, []int{3, 3}); e != api.ErrClash {
		t.Error(e)
	}
}

func TestCheckClashRefuses(t *testing.T) {
	spare := api.Trial{Source: 5, Wet: span(100, 100), Dry: span(80, 100)}
	l := []api.Trial{long(), spare, short()}
	if e := ware.CheckClash(clay(), l, []int{3, 4}); e != api.OK {
		t.Error(e)
	}
	for _, by := range [][]int{
		nil, {}, {3}, {4}, {5}, {4, 3}, {3, 3}, {3, 3, 4}, {3, 5}, {3, 4, 5}, {2, 3, 4}, {3, 4, 6},
		{0, 3, 4}, {-3, 4}, {math.MinInt, 3, 4}, {3, 4, math.MaxInt}, make([]int, 1000),
	} {
		if e := ware.CheckClash(clay(), l, by); e != api.ErrClash {
			t.Error(by, e)
		}
	}
	if e := ware.CheckClash(clay(), nil, nil); e != api.ErrClash {
		t.Error(e)
	}
}

// greedy follows the chapter's words: from the greatest source to the least, each is left out that can be.
func greedy(shrink api.Range, l []api.Trial) []int {
	var by []int
	for _, x := range l {
		by = append(by, x.Source)
	}
	slices.Sort(by)
	by = slices.Compact(by)
	for _, s := range slices.Backward(slices.Clone(by)) {
		rest := slices.DeleteFunc(slices.Clone(by), func(x int) bool { return x == s })
		if len(rest) > 0 && len(shrinkages(shrink, l, rest)) == 0 {
			by = rest
		}
	}
	return by
}

// doTwoClash reports whether one trial alone contradicts the body, or two of them do.
func doTwoClash(shrink api.Range, l []api.Trial) bool {
	for i := range l {
		for j := range i + 1 {
			if len(shrinkages(shrink, []api.Trial{l[i], l[j]}, nil)) == 0 {
				return true
			}
		}
	}
	return false
}

func TestNarrowAndClashOfManyTrials(t *testing.T) {
	r := rand.New(rand.NewSource(8))
	clashes, fine := 0, 0
	for range 4000 {
		b := randomBody(r)
		l := randomTrials(r, b)
		if ware.CheckTrials(l) != api.OK {
			t.Fatal(l)
		}
		kept := slices.Clone(l)
		left := shrinkages(b.Shrink, l, nil)
		narrow, e := ware.Narrow(b, l)
		by, f := ware.Clash(b, l)
		if !slices.Equal(l, kept) {
			t.Fatal("the trials were changed", l, kept)
		}
		if doTwoClash(b.Shrink, l) != (len(left) == 0) {
			t.Fatal("two trials", b, l)
		}
		if len(left) > 0 {
			fine++
			want := b
			want.Shrink = span(left[0], left[len(left)-1])
			if narrow != want || e != api.OK || len(by) != 0 || f != api.ErrNone {
				t.Fatal(b, l, narrow, e, by, f)
			}
			continue
		}
		clashes++
		if narrow != (api.Body{}) || e != api.ErrClash || f != api.OK || len(by) > 2 {
			t.Fatal(b, l, narrow, e, by, f)
		}
		if !slices.Equal(by, greedy(b.Shrink, l)) || ware.CheckClash(b, l, by) != api.OK {
			t.Fatal(b, l, by)
		}
	}
	if clashes < 500 || fine < 500 {
		t.Error("the cases are lopsided", clashes, fine)
	}
}

func TestCheckClashOfAllLists(t *testing.T) {
	r := rand.New(rand.NewSource(9))
	accepted := 0
	for range 300 {
		b := randomBody(r)
		l := randomTrials(r, b)
		for set := range 1 << 7 {
			var by []int
			known := true
			for s := range 7 {
				if set>>s&1 == 1 {
					by = append(by, s+1)
					known = known && slices.ContainsFunc(l, func(x api.Trial) bool { return x.Source == s+1 })
				}
			}
			want := api.ErrClash
			if known && isConflict(b.Shrink, l, by) {
				want = api.OK
				accepted++
			}
			if e := ware.CheckClash(b, l, by); e != want {
				t.Fatal(b, l, by, e)
			}
		}
	}
	if accepted < 50 {
		t.Error("too few are accepted", accepted)
	}
}

func TestNarrowKeepsTheTrueShrinkage(t *testing.T) {
	r := rand.New(rand.NewSource(10))
	for range 2000 {
		b := randomBody(r)
		s := b.Shrink.Lo + r.Intn(b.Shrink.Hi-b.Shrink.Lo+1)
		var l []api.Trial
		last := b
		for i := range 1 + r.Intn(api.MaxTrials) {
			wet := 1 + r.Intn(api.MaxSize)
			dry := wet * (1000 - s) // in parts of 1000
			l = append(l, api.Trial{
				Source: i + 1,
				Wet:    span(max(wet-r.Intn(5), 1), min(wet+r.Intn(5), api.MaxSize)),
				Dry:    span(max(dry/1000-r.Intn(3), 0), min((dry+999)/1000+r.Intn(3), api.MaxSize)),
			})
			narrow, e := ware.Narrow(b, l)
			if e != api.OK || s < narrow.Shrink.Lo || narrow.Shrink.Hi < s {
				t.Fatal(b, l, s, narrow, e)
			}
			if narrow.Shrink.Lo < last.Shrink.Lo || last.Shrink.Hi < narrow.Shrink.Hi {
				t.Fatal("the range became wider", b, l, narrow, last)
			}
			last = narrow
		}
	}
}

func TestBar(t *testing.T) {
	if x, e := ware.Bar(clay(), 5, 100); x != (api.Trial{Source: 5, Wet: span(100, 100), Dry: span(88, 90)}) || e != api.OK {
		t.Error(x, e)
	}
	r := rand.New(rand.NewSource(11))
	for range 2000 {
		b := randomBody(r)
		source, wet := 1+r.Intn(api.MaxSource), 1+r.Intn(api.MaxSize)
		x, e := ware.Bar(b, source, wet)
		dry, _ := ware.Shrunk(b, span(wet, wet))
		if e != api.OK || x != (api.Trial{Source: source, Wet: span(wet, wet), Dry: dry}) {
			t.Fatal(b, source, wet, x, e)
		}
		if narrow, e := ware.Narrow(b, []api.Trial{x}); narrow != b || e != api.OK {
			t.Fatal("a bar tells something new", b, x, narrow, e)
		}
	}
	for _, source := range []int{1, api.MaxSource} {
		for _, wet := range []int{1, api.MaxSize} {
			if _, e := ware.Bar(clay(), source, wet); e != api.OK {
				t.Error(source, wet, e)
			}
		}
	}
}

func TestErrorsOfBar(t *testing.T) {
	for _, b := range wrongBodies() {
		if x, e := ware.Bar(b, 0, 0); x != (api.Trial{}) || e != api.ErrBody {
			t.Error(b, x, e)
		}
	}
	for _, wet := range wrongNumbers(1, api.MaxSize) {
		for _, source := range []int{0, 5} {
			if x, e := ware.Bar(clay(), source, wet); x != (api.Trial{}) || e != api.ErrArg {
				t.Error(source, wet, x, e)
			}
		}
	}
	for _, source := range wrongNumbers(1, api.MaxSource) {
		if x, e := ware.Bar(clay(), source, 100); x != (api.Trial{}) || e != api.ErrTrial {
			t.Error(source, x, e)
		}
	}
}

func TestErrorsOfNarrowAndClash(t *testing.T) {
	check := func(b api.Body, l []api.Trial, want api.Errno) {
		t.Helper()
		if x, e := ware.Narrow(b, l); x != (api.Body{}) || e != want {
			t.Error("Narrow", b, l, x, e)
		}
		if by, e := ware.Clash(b, l); len(by) != 0 || e != want {
			t.Error("Clash", b, l, by, e)
		}
		for _, by := range [][]int{nil, {3, 4}, {4, 3}} {
			if e := ware.CheckClash(b, l, by); e != want {
				t.Error("CheckClash", b, l, by, e)
			}
		}
	}
	for _, b := range wrongBodies() {
		check(b, []api.Trial{{}}, api.ErrBody)
	}
	for _, x := range wrongTrials() {
		check(clay(), []api.Trial{short(), long(), x}, api.ErrTrial)
	}
	check(clay(), slices.Repeat([]api.Trial{short(), long()}, api.MaxTrials), api.ErrTrial)
}

func TestClashReturnsNewMemory(t *testing.T) {
	l := []api.Trial{long(), short()}
	first, _ := ware.Clash(clay(), l)
	clear(first)
	if again, e := ware.Clash(clay(), l); !slices.Equal(again, []int{3, 4}) || e != api.OK {
		t.Error(again, e)
	}
	by := []int{3, 4}
	if e := ware.CheckClash(clay(), l, by); e != api.OK || !slices.Equal(by, []int{3, 4}) {
		t.Error("the sources were changed", by, e)
	}
}
