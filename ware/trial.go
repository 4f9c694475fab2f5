package ware

import (
	"iter"
	"slices"

	"potbank/api"
	"potbank/clash"
	"potbank/limits"
)

func isEmpty(r api.Range) bool { return r.Lo > r.Hi }

// common returns the numbers that both ranges have; it is empty if one of them is.
func common(a, b api.Range) api.Range {
	return api.Range{Lo: max(a.Lo, b.Lo), Hi: min(a.Hi, b.Hi)}
}

func isTrial(t api.Trial) bool {
	return limits.IsSource(t.Source) &&
		limits.IsRange(t.Wet, 1, api.MaxSize) &&
		limits.IsRange(t.Dry, 0, api.MaxSize)
}

// CheckTrials returns OK for trials; ErrLong if there are too many, and ErrTrial if one is not valid.
func CheckTrials(l []api.Trial) api.Errno {
	if len(l) > api.MaxTrials {
		return api.ErrLong
	}
	for _, t := range l {
		if !isTrial(t) {
			return api.ErrTrial
		}
	}
	return api.OK
}

func checkTold(b api.Body, l []api.Trial) api.Errno {
	if e := CheckBody(b); e != api.OK {
		return e
	}
	if CheckTrials(l) != api.OK {
		return api.ErrTrial
	}
	return api.OK
}

// told returns the numbers from 0 to MaxShrink that a valid trial allows; it may be empty.
// The longest bar has to stay at least Dry.Lo long, and the shortest one to become at most Dry.Hi.
func told(t api.Trial) api.Range {
	return common(api.Range{Lo: 0, Hi: api.MaxShrink}, api.Range{
		Lo: whole - t.Dry.Hi*whole/t.Wet.Lo,
		Hi: whole - roundedUp(t.Dry.Lo*whole, t.Wet.Hi),
	})
}

// Told returns how much a body may shrink by a trial; ErrNone if the trial allows no number.
func Told(t api.Trial) (api.Range, api.Errno) {
	if !isTrial(t) {
		return api.Range{}, api.ErrTrial
	}
	r := told(t)
	if isEmpty(r) {
		return api.Range{}, api.ErrNone
	}
	return r, api.OK
}

// trialsBy yields the trials that have one of the sources, in order.
func trialsBy(l []api.Trial, by []int) iter.Seq[api.Trial] {
	return func(yield func(api.Trial) bool) {
		for _, t := range l {
			if slices.Contains(by, t.Source) && !yield(t) {
				return
			}
		}
	}
}

// allowed returns the numbers of a range that all trials allow; it may be empty.
func allowed(shrink api.Range, trials iter.Seq[api.Trial]) api.Range {
	for t := range trials {
		shrink = common(shrink, told(t))
		if isEmpty(shrink) {
			break
		}
	}
	return shrink
}

// Narrow returns the body with the shrinkage that all trials allow; ErrClash if there is none.
func Narrow(b api.Body, l []api.Trial) (api.Body, api.Errno) {
	if e := checkTold(b, l); e != api.OK {
		return api.Body{}, e
	}
	b.Shrink = allowed(b.Shrink, slices.Values(l))
	if isEmpty(b.Shrink) {
		return api.Body{}, api.ErrClash
	}
	return b, api.OK
}

// sources returns the sources of trials, each once, rising.
func sources(l []api.Trial) []int {
	all := make([]int, 0, len(l))
	for _, t := range l {
		all = append(all, t.Source)
	}
	slices.Sort(all)
	return slices.Compact(all)
}

// contradict returns what reports whether the trials of some sources contradict a body.
func contradict(b api.Body, l []api.Trial) func(by []int) bool {
	return func(by []int) bool { return isEmpty(allowed(b.Shrink, trialsBy(l, by))) }
}

// Clash returns sources whose trials contradict the body, and none of which can be left out; ErrNone if all trials do not contradict it.
func Clash(b api.Body, l []api.Trial) ([]int, api.Errno) {
	if e := checkTold(b, l); e != api.OK {
		return nil, e
	}
	by, do := clash.Of(sources(l), contradict(b, l))
	if !do {
		return nil, api.ErrNone
	}
	return by, api.OK
}

// CheckClash returns OK if the trials of the sources contradict the body, and those without any one of them do not; otherwise ErrClash.
func CheckClash(b api.Body, l []api.Trial, by []int) api.Errno {
	if e := checkTold(b, l); e != api.OK {
		return e
	}
	if !clash.Is(by, sources(l), contradict(b, l)) {
		return api.ErrClash
	}
	return api.OK
}

// Bar returns a trial of one wet length that tells of a body what is known of it.
func Bar(b api.Body, source, wet int) (api.Trial, api.Errno) {
	if e := CheckBody(b); e != api.OK {
		return api.Trial{}, e
	}
	if !limits.IsBetween(wet, 1, api.MaxSize) {
		return api.Trial{}, api.ErrArg
	}
	if !limits.IsSource(source) {
		return api.Trial{}, api.ErrTrial
	}
	length := api.Range{Lo: wet, Hi: wet}
	return api.Trial{Source: source, Wet: length, Dry: turner(b.Shrink)(length)}, api.OK
}
