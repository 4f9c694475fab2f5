package trial

import (
	"cmp"
	"iter"
	"slices"

	"potbank/api"
)

// standing returns the indices of the events of a valid list that stand, as known on a day, rising. What withdraws an event comes behind it.
func standing(l []api.Event, known int) []int {
	var stand []int
	withdrawn := map[api.Entry]bool{}
	for i, x := range slices.Backward(l) {
		if x.Known > known || withdrawn[x.At] {
			continue
		}
		stand = append(stand, i)
		if x.Kind == api.EvWithdraw {
			withdrawn[x.Of] = true
		}
	}
	slices.Reverse(stand)
	return stand
}

// happened yields the events that stand, as known on a day, the withdrawals aside, in the order in which they happened.
func happened(l []api.Event, known int) iter.Seq[api.Event] {
	return func(yield func(api.Event) bool) {
		var events []api.Event
		for _, i := range standing(l, known) {
			if l[i].Kind != api.EvWithdraw {
				events = append(events, l[i])
			}
		}
		slices.SortStableFunc(events, func(x, y api.Event) int { return cmp.Compare(x.Day, y.Day) })
		for _, x := range events {
			if !yield(x) {
				return
			}
		}
	}
}
