// Package clash finds sources that contradict each other, and none of which can be left out, for all layers that are told by sources.
package clash

import "slices"

// without returns a copy of a list that lacks the element with an index.
func without(list []int, i int) []int { return slices.Concat(list[:i], list[i+1:]) }

// Of returns those of sources that are left when each one, from the last to the first, is left out if the others still contradict each other; false if all do not.
// Sources that contradict each other must do so with more of them too; contradict neither changes nor keeps those that it is asked about.
func Of(sources []int, contradict func(by []int) bool) ([]int, bool) {
	if !contradict(sources) {
		return nil, false
	}
	left := slices.Clone(sources)
	for i := range slices.Backward(sources) {
		if rest := without(left, i); contradict(rest) {
			left = rest
		}
	}
	return left, true
}

// areSome reports whether a list has some of the sources, strictly increasing.
func areSome(by, sources []int) bool {
	for i, source := range by {
		if i > 0 && source <= by[i-1] || !slices.Contains(sources, source) {
			return false
		}
	}
	return true
}

// Is reports whether a list has some of the sources, strictly increasing, that contradict each other, and no longer do without any one of them.
func Is(by, sources []int, contradict func(by []int) bool) bool {
	if !areSome(by, sources) || !contradict(by) {
		return false
	}
	for i := range by {
		if contradict(without(by, i)) {
			return false
		}
	}
	return true
}
