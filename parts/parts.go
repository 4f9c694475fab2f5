// Package parts puts things, by their indices, into the fewest parts that do, for all layers that ask for such parts.
package parts

import "potbank/limits"

// IsSet reports whether a list has indices of n things, rising.
func IsSet(list []int, n int) bool {
	last := -1
	for _, i := range list {
		if !limits.IsBetween(i, last+1, n-1) {
			return false
		}
		last = i
	}
	return true
}

// Are reports whether lists are parts of n things: sets, none empty, that have each thing just once and are ordered by their first indices.
func Are(lists [][]int, n int) bool {
	in := make([]bool, n)
	many, first := 0, -1
	for _, list := range lists {
		if len(list) == 0 || !IsSet(list, n) || list[0] <= first {
			return false
		}
		first = list[0]
		for _, i := range list {
			if in[i] {
				return false
			}
			in[i] = true
			many++
		}
	}
	return many == n
}

// copied returns a copy of lists.
func copied(lists [][]int) [][]int {
	all := make([][]int, 0, len(lists))
	for _, list := range lists {
		one := make([]int, len(list))
		copy(one, list)
		all = append(all, one)
	}
	return all
}

// First returns n things in at most so many parts that all do; false if there are none. Of several such parts it returns those whose list of numbers is first (R6): for each thing the index of its part.
// What does not do must not do with more things either; does neither changes nor keeps the part that it is asked about.
func First(n, most int, does func(part []int) bool) ([][]int, bool) {
	var parts [][]int
	var put func(i int) bool
	// tryIn puts the thing i into a part, and those behind it into any; false, and the parts as they were, if that does not do.
	tryIn := func(at, i int) bool {
		parts[at] = append(parts[at], i)
		if does(parts[at]) && put(i+1) {
			return true
		}
		parts[at] = parts[at][:len(parts[at])-1]
		return false
	}
	put = func(i int) bool {
		if i == n {
			return true
		}
		for at := range parts {
			if tryIn(at, i) {
				return true
			}
		}
		if len(parts) == most {
			return false
		}
		parts = append(parts, nil)
		if tryIn(len(parts)-1, i) {
			return true
		}
		parts = parts[:len(parts)-1]
		return false
	}
	if !put(0) {
		return nil, false
	}
	// Theirs is memory that the search works in.
	return copied(parts), true
}

// Fewest returns n things in the fewest parts that all do, of several as few those of First; false if a thing does not do by itself.
func Fewest(n int, does func(part []int) bool) ([][]int, bool) {
	for i := range n {
		if !does([]int{i}) {
			return nil, false
		}
	}
	for most := range n {
		if parts, do := First(n, most, does); do {
			return parts, true
		}
	}
	return First(n, n, does)
}
